import Derived.Test.YtpidmpefodnffaaGreatDoorWrtc
namespace Go.Proofs.YtpidmpefodnffaaGreatDoor
open Go.RowKit Go.Lib
def stnB (size : Nat) (n : Int) : Bool := decide (0 ≤ n ∧ n < 256 ^ size)
theorem stnB_iff (size : Nat) (n : Int) : stnB size n = true ↔ stn size n := by simp [stnB, stn]
/-- What is wrong with Num. -/
def numE (size n : Int) : Nat := if 1 ≤ size ∧ size ≤ 8 then (if stnB size.toNat n = true then 0 else 20) else 1
/-- What is wrong with Text. -/
def textE (most : Int) (len : Nat) : Nat := if 0 ≤ most ∧ most ≤ 65535 then (if (len : Int) ≤ most then 0 else 21) else 1
/-- A Writer behind a call: what it has, what is wrong. -/
def wPut (X : List UInt8) (E e : Nat) (Y : List UInt8) : List UInt8 × Nat := if E ≠ 0 then (X, E) else if e ≠ 0 then (X, e) else (X ++ Y, 0)
theorem wPut_old {X : List UInt8} {E e : Nat} {Y : List UInt8} (h : E ≠ 0) : wPut X E e Y = (X, E) := by simp [wPut, h]
theorem wPut_bad {X : List UInt8} {e : Nat} {Y : List UInt8} (h : e ≠ 0) : wPut X 0 e Y = (X, e) := by simp [wPut, h]
theorem wPut_ok {X : List UInt8} {Y : List UInt8} : wPut X 0 0 Y = (X ++ Y, 0) := by simp [wPut]
def numY (size n : Int) : List UInt8 := be size.toNat n.toNat
def textY (most : Int) (s : List UInt8) : List UInt8 := be (ahd most) s.length ++ s
set_option maxHeartbeats 1000000 in
theorem wraw_any (b : Nat) (v : Value) (X : List UInt8) (E : Nat) (s : List UInt8) (w : World) (h : WAt b v X E w) (hX : X.length + s.length ≤ 70368744177664) :
    Calls Tryz.prog 132 #[.pointer (some ⟨b, 0, none⟩), .string ⟨s.toArray⟩] w fun e w' => e = .returned (.tuple #[]) ∧ WTo b v (wPut X E 0 s).1 (wPut X E 0 s).2 w w' := by
  have c0 := h.c0
  have c1 := h.c1
  have f0 := h.fz 0
  by_cases hE : E = 0
  · subst hE
    rw [wPut_ok]
    rw [errV_0] at c1
    have H := hide h
    clear h
    go_enter Tryz.func132, Tryz.ntmps132
    go_wp2_with (at_builtin; refine own_text rfl (.tmp 13) (.tmp 14) rfl v X (by rfl) (unhide H).own s (by rfl) (by omega) ?_; intro p2 cap2 w2 hown2 hon2 hfr2; generalize hl2 : (X ++ s).length = len2 at *; have HL2 := hide hl2; clear hl2; have c2 : w2.cell? ⟨b, 0, none⟩ = some v := (World.cell?_of_block (hon2.block b (lt_of_row (unhide H).row) (unhide H).ne)).trans (unhide H).c0; have f2 : w2.frozen? ⟨b, 0, none⟩ = false := by (unfold World.frozen?; rw [hon2.block b (lt_of_row (unhide H).row) (unhide H).ne]; exact (unhide H).fz 0))
    go_end0
    have hl2 := unhide HL2
    subst hl2
    obtain ⟨hA, hO⟩ := (unhide H).stored hown2 hon2 hfr2
    exact ⟨rfl, _, hA, hO, hfr2⟩
  · rw [wPut_old hE]
    rw [errV_ne hE] at c1
    have H := hide h
    clear h
    go_enter Tryz.func132, Tryz.ntmps132
    go_wp2
    go_end0
    exact ⟨rfl, WTo.same (unhide H)⟩
set_option maxHeartbeats 1000000 in
theorem wnum_any (b : Nat) (v : Value) (X : List UInt8) (E : Nat) (size n : Int) (w : World) (h : WAt b v X E w) (hn : n ≤ 9223372036854775807) (hX : X.length ≤ 70368744177664) :
    Calls Tryz.prog 135 #[.pointer (some ⟨b, 0, none⟩), .int .i64 size, .int .i64 n] w fun e w' => e = .returned (.tuple #[]) ∧ WTo b v (wPut X E (numE size n) (numY size n)).1 (wPut X E (numE size n) (numY size n)).2 w w' := by
  have c1 := h.c1
  have f1 := h.fz 1
  by_cases hE : E = 0
  · subst hE
    rw [errV_0] at c1
    have H := hide h
    clear h
    by_cases hs : 1 ≤ size ∧ size ≤ 8
    · obtain ⟨k, hk⟩ : ∃ k : Nat, size = (k : Int) := ⟨size.toNat, by omega⟩
      subst hk
      have hk1 : 1 ≤ k := by omega
      have hk8 : k ≤ 8 := by omega
      have hsd : decide (1 ≤ (k : Int) ∧ (k : Int) ≤ 8) = true := by simpa using hs
      by_cases hst : stnB k n = true
      · have he : numE k n = 0 := by simp [numE, hs, hst]
        obtain ⟨m, hm⟩ : ∃ m : Nat, n = (m : Int) := ⟨n.toNat, by have := (stnB_iff k n).1 hst; unfold stn at this; omega⟩
        subst hm
        rw [he, wPut_ok]
        have hy : numY k m = be k m := by simp [numY]
        rw [hy]
        have hst' := stands_any k (m : Int) w hk1 hk8 hn true (by rw [← stnB_iff, hst])
        have HST := hide hst'
        clear hs hst he hy hst'
        go_enter Tryz.func135, Tryz.ntmps135
        go_wp2_with fail
        refine (sized_any (k : Int) w).mono ?_
        rintro e w' ⟨rfl, rfl⟩
        rw [hsd]
        go_wp2_with fail
        refine (unhide HST).mono ?_
        rintro e w'' ⟨rfl, rfl⟩
        go_wp2_with fail
        refine (lay_any b v X k m w'' (unhide H) hk8 (by omega) hX).mono ?_
        rintro e w3 ⟨rfl, hto⟩
        go_wp2
        go_end0
        exact ⟨rfl, hto⟩
      · have hst0 : stnB k n = false := by simpa using hst
        have he : numE k n = 20 := by simp [numE, hs, hst0]
        rw [he, wPut_bad (by decide)]
        have hst' := stands_any k n w hk1 hk8 hn false (by rw [← stnB_iff, hst0])
        have HST := hide hst'
        clear hs hst he hst' hst0
        go_enter Tryz.func135, Tryz.ntmps135
        go_wp2_with fail
        refine (sized_any (k : Int) w).mono ?_
        rintro e w' ⟨rfl, rfl⟩
        rw [hsd]
        go_wp2_with fail
        refine (unhide HST).mono ?_
        rintro e w'' ⟨rfl, rfl⟩
        go_wp2
        go_end0
        exact ⟨rfl, WTo.err (E' := 20) (unhide H)⟩
    · have he : numE size n = 1 := by simp [numE, hs]
      have hsd : decide (1 ≤ size ∧ size ≤ 8) = false := by simpa using hs
      rw [he, wPut_bad (by decide)]
      clear hs he
      go_enter Tryz.func135, Tryz.ntmps135
      go_wp2_with fail
      refine (sized_any size w).mono ?_
      rintro e w' ⟨rfl, rfl⟩
      rw [hsd]
      go_wp2
      go_end0
      exact ⟨rfl, WTo.err (E' := 1) (unhide H)⟩
  · rw [wPut_old hE]
    rw [errV_ne hE] at c1
    have H := hide h
    clear h
    go_enter Tryz.func135, Tryz.ntmps135
    go_wp2
    go_end0
    exact ⟨rfl, WTo.same (unhide H)⟩
theorem be1_len (most : Int) (n : Nat) : (be (ahd most) n).length ≤ 2 := by rw [be_len]; unfold ahd; split <;> omega
set_option maxHeartbeats 1000000 in
theorem wtext_any (b : Nat) (v : Value) (X : List UInt8) (E : Nat) (most : Int) (s : List UInt8) (w : World) (h : WAt b v X E w) (hX : X.length + s.length + 2 ≤ 70368744177664) :
    Calls Tryz.prog 137 #[.pointer (some ⟨b, 0, none⟩), .int .i64 most, .string ⟨s.toArray⟩] w fun e w' => e = .returned (.tuple #[]) ∧ WTo b v (wPut X E (textE most s.length) (textY most s)).1 (wPut X E (textE most s.length) (textY most s)).2 w w' := by
  have c1 := h.c1
  have f1 := h.fz 1
  by_cases hE : E = 0
  · subst hE
    rw [errV_0] at c1
    have H := hide h
    clear h
    by_cases hs : 0 ≤ most ∧ most ≤ 65535
    · have hsd : decide (0 ≤ most ∧ most ≤ 65535) = true := by simpa using hs
      by_cases hl : (s.length : Int) ≤ most
      · have he : textE most s.length = 0 := by simp [textE, hs, hl]
        rw [he, wPut_ok]
        have ha8 : ahd most ≤ 8 := by unfold ahd; split <;> omega
        have hbl := be1_len most s.length
        have hld : decide ((s.length : Int) > most) = false := by simp; omega
        have hs2 := hs.2
        clear hs he
        go_enter Tryz.func137, Tryz.ntmps137
        go_wp2_with fail
        refine (bounded_any most w).mono ?_
        rintro e w' ⟨rfl, rfl⟩
        rw [hsd]
        go_wp2_with fail
        refine (lengthSize_any most w').mono ?_
        rintro e w'' ⟨rfl, rfl⟩
        go_wp2_with fail
        refine (lay_any b v X (ahd most) s.length w'' (unhide H) ha8 (by omega) (by omega)).mono ?_
        rintro e w3 ⟨rfl, v3, hA3, hO3, hf3⟩
        have HA3 := hide hA3
        clear hA3
        go_wp2_with fail
        refine (wraw_any b v3 (X ++ be (ahd most) s.length) 0 s w3 (unhide HA3) (by rw [List.length_append]; omega)).mono ?_
        rintro e w4 ⟨rfl, hto⟩
        rw [wPut_ok] at hto
        go_wp2
        go_end0
        refine ⟨rfl, WTo.step hO3 hf3 ?_⟩
        rw [textY, ← List.append_assoc]
        exact hto
      · have he : textE most s.length = 21 := by simp [textE, hs, hl]
        rw [he, wPut_bad (by decide)]
        have hld : decide ((s.length : Int) > most) = true := by simp; omega
        clear hs he
        go_enter Tryz.func137, Tryz.ntmps137
        go_wp2_with fail
        refine (bounded_any most w).mono ?_
        rintro e w' ⟨rfl, rfl⟩
        rw [hsd]
        go_wp2
        go_end0
        exact ⟨rfl, WTo.err (E' := 21) (unhide H)⟩
    · have he : textE most s.length = 1 := by simp [textE, hs]
      have hsd : decide (0 ≤ most ∧ most ≤ 65535) = false := by simpa using hs
      rw [he, wPut_bad (by decide)]
      clear hs he
      go_enter Tryz.func137, Tryz.ntmps137
      go_wp2_with fail
      refine (bounded_any most w).mono ?_
      rintro e w' ⟨rfl, rfl⟩
      rw [hsd]
      go_wp2
      go_end0
      exact ⟨rfl, WTo.err (E' := 1) (unhide H)⟩
  · rw [wPut_old hE]
    rw [errV_ne hE] at c1
    have H := hide h
    clear h
    go_enter Tryz.func137, Tryz.ntmps137
    go_wp2
    go_end0
    exact ⟨rfl, WTo.same (unhide H)⟩
theorem as_nil (t : Value) (w : World) :
    Calls Tryz.prog 165 #[.nilIface, t] w fun e w' => e = .returned (.bool false) ∧ w' = w := by
  go_enter Tryz.func165, Tryz.ntmps165
  go_wp2
  go_ret
  exact ⟨rfl, rfl⟩
set_option maxHeartbeats 1000000 in
theorem wdone_ok (b : Nat) (v : Value) (X : List UInt8) (w : World) (h : WAt b v X 0 w) :
    Calls Tryz.prog 151 #[.pointer (some ⟨b, 0, none⟩)] w fun e w' => e = .returned (.tuple #[.string ⟨X.toArray⟩, .int .i64 0]) ∧ Below w.heap.size w w' := by
  have c0 := h.c0
  have c1 := h.c1
  rw [errV_0] at c1
  have hlt := lt_of_row h.row
  have hk : WAt b v X 0 (w.alloc (.cells #[.int .i64 0] 229)) := h.keep (Only.alloc (fun _ => False) w _) (fun q => q) (fun _ _ q => q)
  have HX := hide hk.text
  clear h hk
  go_enter Tryz.func151, Tryz.ntmps151
  go_wp2_with fail
  refine (as_nil _ _).mono ?_
  rintro e w1 ⟨rfl, rfl⟩
  go_wp2_with (refine wpList_conv rfl 105 9 (.tmp 16) rfl _ _ (by rfl) (unhide HX) ?_)
  go_ret2
  exact ⟨rfl, (Below.refl _ _).alloc (Nat.le_refl _) _⟩
end Go.Proofs.YtpidmpefodnffaaGreatDoor
