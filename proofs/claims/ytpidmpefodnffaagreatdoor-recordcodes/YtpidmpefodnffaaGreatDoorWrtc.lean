import Derived.Test.YtpidmpefodnffaaGreatDoorWrtb
namespace Go.Proofs.YtpidmpefodnffaaGreatDoor
open Go.RowKit Go.Lib
theorem WAt.stored {b : Nat} {v v' : Value} {X X' : List UInt8} {E : Nat} {w w2 : World} (h : WAt b v X E w) (hown : w2.ownsRow 0 5 1 v' X'.length (X'.map B)) (ho : Only (fun k => v.ownBlock = some k) w w2) (hf : ∀ k, v'.ownBlock = some k → v.ownBlock = some k ∨ w.heap.size ≤ k) :
    WAt b v' X' E (w2.setCell ⟨b, 0, none⟩ v') ∧ Only (foot b v) w (w2.setCell ⟨b, 0, none⟩ v') := by
  have hlt := lt_of_row h.row
  have hrow : w2.heap[b]? = some (.cells #[v, errV E] 225 (0, 0)) := (ho.block b hlt h.ne).trans h.row
  have hne : v'.ownBlock ≠ some b := by
    intro q
    rcases hf b q with r | r
    · exact h.ne r
    · omega
  have hr := heap_setCell_same w2 b 0 _ 225 v' hrow
  refine ⟨⟨by simpa using hr, ownsF_same hown (fun k hk => heap_setCell_other w2 ⟨b, 0, none⟩ k _ (fun e => hne (by rw [hk, e]))), hne⟩, ?_⟩
  have o2 := Only.setCell w2 ⟨b, 0, none⟩ v'
  exact ⟨o2.os.trans ho.os, o2.tape.trans ho.tape, o2.output.trans ho.output, Nat.le_trans ho.size o2.size, fun k hk hp => (o2.block k (Nat.lt_of_lt_of_le hk ho.size) (fun e => hp (.inl e))).trans (ho.block k hk (fun e => hp (.inr e)))⟩
theorem Only.left_drew {P : Nat → Prop} {w w' : World} (h : Only P w.drew w') : Only P w w' := ⟨h.os, h.tape, h.output, h.size, h.block⟩
set_option maxHeartbeats 4000000 in
set_option maxRecDepth 8000 in
theorem lay_any (b : Nat) (v : Value) (X : List UInt8) (size n : Nat) (w : World) (h : WAt b v X 0 w) (h8 : size ≤ 8) (_hn : n < 9223372036854775808) (hX : X.length ≤ 70368744177664) :
    Calls Tryz.prog 161 #[.pointer (some ⟨b, 0, none⟩), .int .i64 size, .int .i64 n] w fun e w' => e = .returned (.tuple #[]) ∧ WTo b v (X ++ be size n) 0 w w' := by
  have H := hide h
  clear h
  go_enter Tryz.func161, Tryz.ntmps161
  go_wp2
  go_loopw [6] (fun i wr => ∃ k : Nat, k ≤ size ∧ i = .int .i64 ((size : Int) - 1 - (k : Int)) ∧ WTo b v (X ++ (be size n).take k) 0 w wr) (fun i _ => (intOf i + 1).toNat)
  case atStart => exact ⟨0, by omega, by simp, by simpa using WTo.same (unhide H)⟩
  case round =>
    clear H
    obtain ⟨k, hk, rfl, v1, h1, ho1, hf1⟩ := hrel
    by_cases hlt : k < size
    · obtain ⟨j, hj⟩ : ∃ j : Nat, size - 1 - k = j := ⟨_, rfl⟩
      have hji : (size : Int) - 1 - (k : Int) = (j : Int) := by omega
      have HNX := hide (be_next size n k hlt)
      rw [hj] at HNX
      have hj8 : j < 8 := by omega
      have hxl : (X ++ (be size n).take k).length ≤ 70368744177672 := by rw [List.length_append, List.length_take, be_len]; omega
      generalize (be size n).take k = Y at *
      have c0 := h1.c0
      have f0 := h1.fz 0
      have hblt := lt_of_row h1.row
      have HW := hide h1
      have HO := hide ho1
      have HF := hide hf1
      clear h1 ho1 hf1
      rw [hji]
      rcases (by omega : j = 0 ∨ j = 1 ∨ j = 2 ∨ j = 3 ∨ j = 4 ∨ j = 5 ∨ j = 6 ∨ j = 7) with rfl | rfl | rfl | rfl | rfl | rfl | rfl | rfl
      all_goals go_wp2
      · have HM : Hid (256 ^ 0 = 1) := hide (by decide)
        rw [unhide HM] at HNX
        have hw8 : IntKind.i64.wrap 0 = 0 := by decide
        go_region_law (refine step_push rfl (.tmp 17) (.tmp 23) rfl v1 (X ++ Y) (by rfl) wr.drew _ (UInt8.ofNat (n / 1)) (by first | (rw [IntKind.wrap_u8, UInt8.toNat_ofNat']; omega) | (rw [UInt8.toNat_ofNat']; omega)) (unhide HW).own (by rfl) (by omega) ?_; intro p2 cap2 w2 hown2 hon2 hfr2; generalize hl2 : (X ++ Y ++ [UInt8.ofNat (n / 1)]).length = len2 at *; have HL2 := hide hl2; clear hl2; have c2 : w2.cell? ⟨b, 0, none⟩ = some v1 := (Only.left_drew hon2 |> fun o => World.cell?_of_block (o.block b (lt_of_row (unhide HW).row) (unhide HW).ne)).trans (unhide HW).c0; have f2 : w2.frozen? ⟨b, 0, none⟩ = false := by (have o := Only.left_drew hon2; unfold World.frozen?; rw [o.block b (lt_of_row (unhide HW).row) (unhide HW).ne]; exact (unhide HW).fz 0))
        all_goals go_wp2
        all_goals (
          go_roundw
          case rel =>
            have hl2 := unhide HL2
            subst hl2
            obtain ⟨hA, hO⟩ := (unhide HW).stored hown2 (Only.left_drew hon2) hfr2
            refine ⟨k + 1, by omega, by first | (simp; omega) | (congr 1; omega), ?_⟩
            rw [unhide HNX, ← List.append_assoc]
            exact WTo.step (unhide HO) (unhide HF) ⟨_, hA, hO, hfr2⟩
          case measure => first | (simp [intOf]; done) | (simp [intOf]; omega))
      · have HM : Hid (256 ^ 1 = 256) := hide (by decide)
        rw [unhide HM] at HNX
        have hw8 : IntKind.i64.wrap 8 = 8 := by decide
        go_region_law (refine step_push rfl (.tmp 17) (.tmp 23) rfl v1 (X ++ Y) (by rfl) wr.drew _ (UInt8.ofNat (n / 256)) (by first | (rw [IntKind.wrap_u8, UInt8.toNat_ofNat']; omega) | (rw [UInt8.toNat_ofNat']; omega)) (unhide HW).own (by rfl) (by omega) ?_; intro p2 cap2 w2 hown2 hon2 hfr2; generalize hl2 : (X ++ Y ++ [UInt8.ofNat (n / 256)]).length = len2 at *; have HL2 := hide hl2; clear hl2; have c2 : w2.cell? ⟨b, 0, none⟩ = some v1 := (Only.left_drew hon2 |> fun o => World.cell?_of_block (o.block b (lt_of_row (unhide HW).row) (unhide HW).ne)).trans (unhide HW).c0; have f2 : w2.frozen? ⟨b, 0, none⟩ = false := by (have o := Only.left_drew hon2; unfold World.frozen?; rw [o.block b (lt_of_row (unhide HW).row) (unhide HW).ne]; exact (unhide HW).fz 0))
        all_goals go_wp2
        all_goals (
          go_roundw
          case rel =>
            have hl2 := unhide HL2
            subst hl2
            obtain ⟨hA, hO⟩ := (unhide HW).stored hown2 (Only.left_drew hon2) hfr2
            refine ⟨k + 1, by omega, by first | (simp; omega) | (congr 1; omega), ?_⟩
            rw [unhide HNX, ← List.append_assoc]
            exact WTo.step (unhide HO) (unhide HF) ⟨_, hA, hO, hfr2⟩
          case measure => first | (simp [intOf]; done) | (simp [intOf]; omega))
      · have HM : Hid (256 ^ 2 = 65536) := hide (by decide)
        rw [unhide HM] at HNX
        have hw8 : IntKind.i64.wrap 16 = 16 := by decide
        go_region_law (refine step_push rfl (.tmp 17) (.tmp 23) rfl v1 (X ++ Y) (by rfl) wr.drew _ (UInt8.ofNat (n / 65536)) (by first | (rw [IntKind.wrap_u8, UInt8.toNat_ofNat']; omega) | (rw [UInt8.toNat_ofNat']; omega)) (unhide HW).own (by rfl) (by omega) ?_; intro p2 cap2 w2 hown2 hon2 hfr2; generalize hl2 : (X ++ Y ++ [UInt8.ofNat (n / 65536)]).length = len2 at *; have HL2 := hide hl2; clear hl2; have c2 : w2.cell? ⟨b, 0, none⟩ = some v1 := (Only.left_drew hon2 |> fun o => World.cell?_of_block (o.block b (lt_of_row (unhide HW).row) (unhide HW).ne)).trans (unhide HW).c0; have f2 : w2.frozen? ⟨b, 0, none⟩ = false := by (have o := Only.left_drew hon2; unfold World.frozen?; rw [o.block b (lt_of_row (unhide HW).row) (unhide HW).ne]; exact (unhide HW).fz 0))
        all_goals go_wp2
        all_goals (
          go_roundw
          case rel =>
            have hl2 := unhide HL2
            subst hl2
            obtain ⟨hA, hO⟩ := (unhide HW).stored hown2 (Only.left_drew hon2) hfr2
            refine ⟨k + 1, by omega, by first | (simp; omega) | (congr 1; omega), ?_⟩
            rw [unhide HNX, ← List.append_assoc]
            exact WTo.step (unhide HO) (unhide HF) ⟨_, hA, hO, hfr2⟩
          case measure => first | (simp [intOf]; done) | (simp [intOf]; omega))
      · have HM : Hid (256 ^ 3 = 16777216) := hide (by decide)
        rw [unhide HM] at HNX
        have hw8 : IntKind.i64.wrap 24 = 24 := by decide
        go_region_law (refine step_push rfl (.tmp 17) (.tmp 23) rfl v1 (X ++ Y) (by rfl) wr.drew _ (UInt8.ofNat (n / 16777216)) (by first | (rw [IntKind.wrap_u8, UInt8.toNat_ofNat']; omega) | (rw [UInt8.toNat_ofNat']; omega)) (unhide HW).own (by rfl) (by omega) ?_; intro p2 cap2 w2 hown2 hon2 hfr2; generalize hl2 : (X ++ Y ++ [UInt8.ofNat (n / 16777216)]).length = len2 at *; have HL2 := hide hl2; clear hl2; have c2 : w2.cell? ⟨b, 0, none⟩ = some v1 := (Only.left_drew hon2 |> fun o => World.cell?_of_block (o.block b (lt_of_row (unhide HW).row) (unhide HW).ne)).trans (unhide HW).c0; have f2 : w2.frozen? ⟨b, 0, none⟩ = false := by (have o := Only.left_drew hon2; unfold World.frozen?; rw [o.block b (lt_of_row (unhide HW).row) (unhide HW).ne]; exact (unhide HW).fz 0))
        all_goals go_wp2
        all_goals (
          go_roundw
          case rel =>
            have hl2 := unhide HL2
            subst hl2
            obtain ⟨hA, hO⟩ := (unhide HW).stored hown2 (Only.left_drew hon2) hfr2
            refine ⟨k + 1, by omega, by first | (simp; omega) | (congr 1; omega), ?_⟩
            rw [unhide HNX, ← List.append_assoc]
            exact WTo.step (unhide HO) (unhide HF) ⟨_, hA, hO, hfr2⟩
          case measure => first | (simp [intOf]; done) | (simp [intOf]; omega))
      · have HM : Hid (256 ^ 4 = 4294967296) := hide (by decide)
        rw [unhide HM] at HNX
        have hw8 : IntKind.i64.wrap 32 = 32 := by decide
        go_region_law (refine step_push rfl (.tmp 17) (.tmp 23) rfl v1 (X ++ Y) (by rfl) wr.drew _ (UInt8.ofNat (n / 4294967296)) (by first | (rw [IntKind.wrap_u8, UInt8.toNat_ofNat']; omega) | (rw [UInt8.toNat_ofNat']; omega)) (unhide HW).own (by rfl) (by omega) ?_; intro p2 cap2 w2 hown2 hon2 hfr2; generalize hl2 : (X ++ Y ++ [UInt8.ofNat (n / 4294967296)]).length = len2 at *; have HL2 := hide hl2; clear hl2; have c2 : w2.cell? ⟨b, 0, none⟩ = some v1 := (Only.left_drew hon2 |> fun o => World.cell?_of_block (o.block b (lt_of_row (unhide HW).row) (unhide HW).ne)).trans (unhide HW).c0; have f2 : w2.frozen? ⟨b, 0, none⟩ = false := by (have o := Only.left_drew hon2; unfold World.frozen?; rw [o.block b (lt_of_row (unhide HW).row) (unhide HW).ne]; exact (unhide HW).fz 0))
        all_goals go_wp2
        all_goals (
          go_roundw
          case rel =>
            have hl2 := unhide HL2
            subst hl2
            obtain ⟨hA, hO⟩ := (unhide HW).stored hown2 (Only.left_drew hon2) hfr2
            refine ⟨k + 1, by omega, by first | (simp; omega) | (congr 1; omega), ?_⟩
            rw [unhide HNX, ← List.append_assoc]
            exact WTo.step (unhide HO) (unhide HF) ⟨_, hA, hO, hfr2⟩
          case measure => first | (simp [intOf]; done) | (simp [intOf]; omega))
      · have HM : Hid (256 ^ 5 = 1099511627776) := hide (by decide)
        rw [unhide HM] at HNX
        have hw8 : IntKind.i64.wrap 40 = 40 := by decide
        go_region_law (refine step_push rfl (.tmp 17) (.tmp 23) rfl v1 (X ++ Y) (by rfl) wr.drew _ (UInt8.ofNat (n / 1099511627776)) (by first | (rw [IntKind.wrap_u8, UInt8.toNat_ofNat']; omega) | (rw [UInt8.toNat_ofNat']; omega)) (unhide HW).own (by rfl) (by omega) ?_; intro p2 cap2 w2 hown2 hon2 hfr2; generalize hl2 : (X ++ Y ++ [UInt8.ofNat (n / 1099511627776)]).length = len2 at *; have HL2 := hide hl2; clear hl2; have c2 : w2.cell? ⟨b, 0, none⟩ = some v1 := (Only.left_drew hon2 |> fun o => World.cell?_of_block (o.block b (lt_of_row (unhide HW).row) (unhide HW).ne)).trans (unhide HW).c0; have f2 : w2.frozen? ⟨b, 0, none⟩ = false := by (have o := Only.left_drew hon2; unfold World.frozen?; rw [o.block b (lt_of_row (unhide HW).row) (unhide HW).ne]; exact (unhide HW).fz 0))
        all_goals go_wp2
        all_goals (
          go_roundw
          case rel =>
            have hl2 := unhide HL2
            subst hl2
            obtain ⟨hA, hO⟩ := (unhide HW).stored hown2 (Only.left_drew hon2) hfr2
            refine ⟨k + 1, by omega, by first | (simp; omega) | (congr 1; omega), ?_⟩
            rw [unhide HNX, ← List.append_assoc]
            exact WTo.step (unhide HO) (unhide HF) ⟨_, hA, hO, hfr2⟩
          case measure => first | (simp [intOf]; done) | (simp [intOf]; omega))
      · have HM : Hid (256 ^ 6 = 281474976710656) := hide (by decide)
        rw [unhide HM] at HNX
        have hw8 : IntKind.i64.wrap 48 = 48 := by decide
        go_region_law (refine step_push rfl (.tmp 17) (.tmp 23) rfl v1 (X ++ Y) (by rfl) wr.drew _ (UInt8.ofNat (n / 281474976710656)) (by first | (rw [IntKind.wrap_u8, UInt8.toNat_ofNat']; omega) | (rw [UInt8.toNat_ofNat']; omega)) (unhide HW).own (by rfl) (by omega) ?_; intro p2 cap2 w2 hown2 hon2 hfr2; generalize hl2 : (X ++ Y ++ [UInt8.ofNat (n / 281474976710656)]).length = len2 at *; have HL2 := hide hl2; clear hl2; have c2 : w2.cell? ⟨b, 0, none⟩ = some v1 := (Only.left_drew hon2 |> fun o => World.cell?_of_block (o.block b (lt_of_row (unhide HW).row) (unhide HW).ne)).trans (unhide HW).c0; have f2 : w2.frozen? ⟨b, 0, none⟩ = false := by (have o := Only.left_drew hon2; unfold World.frozen?; rw [o.block b (lt_of_row (unhide HW).row) (unhide HW).ne]; exact (unhide HW).fz 0))
        all_goals go_wp2
        all_goals (
          go_roundw
          case rel =>
            have hl2 := unhide HL2
            subst hl2
            obtain ⟨hA, hO⟩ := (unhide HW).stored hown2 (Only.left_drew hon2) hfr2
            refine ⟨k + 1, by omega, by first | (simp; omega) | (congr 1; omega), ?_⟩
            rw [unhide HNX, ← List.append_assoc]
            exact WTo.step (unhide HO) (unhide HF) ⟨_, hA, hO, hfr2⟩
          case measure => first | (simp [intOf]; done) | (simp [intOf]; omega))
      · have HM : Hid (256 ^ 7 = 72057594037927936) := hide (by decide)
        rw [unhide HM] at HNX
        have hw8 : IntKind.i64.wrap 56 = 56 := by decide
        go_region_law (refine step_push rfl (.tmp 17) (.tmp 23) rfl v1 (X ++ Y) (by rfl) wr.drew _ (UInt8.ofNat (n / 72057594037927936)) (by first | (rw [IntKind.wrap_u8, UInt8.toNat_ofNat']; omega) | (rw [UInt8.toNat_ofNat']; omega)) (unhide HW).own (by rfl) (by omega) ?_; intro p2 cap2 w2 hown2 hon2 hfr2; generalize hl2 : (X ++ Y ++ [UInt8.ofNat (n / 72057594037927936)]).length = len2 at *; have HL2 := hide hl2; clear hl2; have c2 : w2.cell? ⟨b, 0, none⟩ = some v1 := (Only.left_drew hon2 |> fun o => World.cell?_of_block (o.block b (lt_of_row (unhide HW).row) (unhide HW).ne)).trans (unhide HW).c0; have f2 : w2.frozen? ⟨b, 0, none⟩ = false := by (have o := Only.left_drew hon2; unfold World.frozen?; rw [o.block b (lt_of_row (unhide HW).row) (unhide HW).ne]; exact (unhide HW).fz 0))
        all_goals go_wp2
        all_goals (
          go_roundw
          case rel =>
            have hl2 := unhide HL2
            subst hl2
            obtain ⟨hA, hO⟩ := (unhide HW).stored hown2 (Only.left_drew hon2) hfr2
            refine ⟨k + 1, by omega, by first | (simp; omega) | (congr 1; omega), ?_⟩
            rw [unhide HNX, ← List.append_assoc]
            exact WTo.step (unhide HO) (unhide HF) ⟨_, hA, hO, hfr2⟩
          case measure => first | (simp [intOf]; done) | (simp [intOf]; omega))
    · have hkk : k = size := by omega
      subst hkk
      have hfull : (be k n).take k = be k n := List.take_of_length_le (by rw [be_len]; omega)
      rw [hfull] at h1
      have hres := hide (show WTo b v (X ++ be k n) 0 w wr from ⟨v1, h1, ho1, hf1⟩)
      clear h1 ho1 hf1 hfull
      have e1 : (k : Int) - 1 - (k : Int) = -1 := by omega
      rw [e1]
      go_wp2
      go_end0
      exact ⟨rfl, unhide hres⟩
end Go.Proofs.YtpidmpefodnffaaGreatDoor
