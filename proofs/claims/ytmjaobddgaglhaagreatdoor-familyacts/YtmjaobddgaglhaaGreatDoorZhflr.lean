import Derived.Test.YtmjaobddgaglhaaGreatDoorHbig
import Derived.Test.YtmjaobddgaglhaaGreatDoorZhmet
import Derived.Test.YtmjaobddgaglhaaGreatDoorZhcrc
import Derived.ArgAppend
import Derived.BigRegion
import Derived.Test.YtmjaobddgaglhaaGreatDoorHfil
namespace Go.Proofs.YtmjaobddgaglhaaGreatDoor
open Go.RowKit
open Sha
set_option maxRecDepth 8000
/-- Bytes that lie in memory of one's own, from a block on. -/
structure BB (w : World) (base g cap : Nat) (X : List UInt8) : Prop where
  hb : base ≤ g
  cell : ∀ j, j < X.length → w.cell? ⟨g, j, none⟩ = some (.int .u8 ((X.getD j 0).toNat : Int))
  spare : ∀ j, j < cap → (w.cell? ⟨g, j, none⟩).isSome = true ∧ w.frozen? ⟨g, j, none⟩ = false
  lt : g < w.heap.size
theorem BB.below {w w' : World} {base g cap : Nat} {X : List UInt8} (h : BB w base g cap X) (b : Below w.heap.size w w') : BB w' base g cap X := by
  have e : ∀ j, w'.cell? ⟨g, j, none⟩ = w.cell? ⟨g, j, none⟩ := fun j => b.cell (by exact h.lt)
  have f : ∀ j, w'.frozen? ⟨g, j, none⟩ = w.frozen? ⟨g, j, none⟩ := fun j => by
    unfold World.frozen?
    rw [b.block g h.lt]
  exact ⟨h.hb, fun j hj => by rw [e]; exact h.cell j hj, fun j hj => by rw [e, f]; exact h.spare j hj, Nat.lt_of_lt_of_le h.lt b.size⟩
theorem BB.text {w : World} {base g cap : Nat} {X : List UInt8} (h : BB w base g cap X) : (convert 101 9 (.slice (some ⟨g, 0, none⟩) X.length cap)).run Tryz.prog w = .ok (.string ⟨X.toArray⟩) w :=
  run_textH w g 0 X.length cap X rfl (fun j hj => by rw [Nat.zero_add]; exact h.cell j hj)
theorem BB.of_owns {w : World} {base n g cap : Nat} {X : List UInt8} (h : w.ownsRow base 5 1 (.slice (some ⟨g, 0, none⟩) n cap) n (X.map B)) : BB w base g cap X := by
  have hl := h.1
  obtain ⟨q, _⟩ | ⟨g', cap', cur, e1, e2, e3, e4, e5, e6, e7⟩ := h.2
  · simp at q
  · simp only [Value.slice.injEq, Option.some.injEq, Addr.mk.injEq, and_true, true_and] at e1
    obtain ⟨rfl, rfl⟩ := e1
    have hlen : X.length = n := by simpa using hl
    refine ⟨e2, ?_, ?_, (Array.getElem?_eq_some_iff.1 e3).1⟩
    · intro j hj
      rw [h.cellAt j (by omega)]
      simp [B, hj]
    · intro j hj
      rw [cell_of_row w g j cur 5 (0, 0) e3, frozen_of_row w g j cur 5 e3]
      simp at e6
      simp [show j < cur.size by omega]
theorem wpList_bytesB {ops : Array Oper} {rest : List Oper} {o : Oper} {a : Act} {w : World} {Q : Exit → Act → World → Prop} (hgd : o.guard = none) (x : Operand) (ho : o.op = .convert 9 101 x)
    (s : List UInt8) (hx : a.eval x = .string ⟨s.toArray⟩)
    (h : ∀ w' cap, BB w' w.heap.size w.heap.size cap s → Below w.heap.size w w' → wpList Tryz.prog ops Q rest (a.put o.dst (.slice (some ⟨w.heap.size, 0, none⟩) s.length cap)) w') : wpList Tryz.prog ops Q (o :: rest) a w := by
  refine wpList_plain hgd fun K hK => ?_
  have hrun := run_bytes_of_string (P := Tryz.prog) w 9 101 5 ⟨s.toArray⟩ Tryz.underlying9 Tryz.underlying101 Tryz.underlying5
  have hsz : (ByteArray.mk s.toArray).size = s.length := by simp [ByteArray.size]
  unfold Oper.wp execOp
  simp only [ho, hx, Sem.run_bind, hrun, Result.andThen_ok]
  rw [hsz]
  refine hK _ _ (h _ _ ⟨Nat.le_refl _, ?_, ?_, ?_⟩ ?_)
  · intro j hj
    have e := World.cell?_alloc_mark w.drew (bytesRow ⟨s.toArray⟩ (grownCap w s.length 0 5)) 5 ((bytesRow ⟨s.toArray⟩ (grownCap w s.length 0 5)).size, (bytesRow ⟨s.toArray⟩ (grownCap w s.length 0 5)).size + 1) j
    refine e.trans ?_
    rw [bytesRow_at _ _ _ (by simpa using hj)]
    simp [hj]
  · intro j hj
    have hcap : j < (bytesRow ⟨s.toArray⟩ (grownCap w s.length 0 5)).size := by simp [bytesRow, hsz]; omega
    have e := World.cell?_alloc_mark w.drew (bytesRow ⟨s.toArray⟩ (grownCap w s.length 0 5)) 5 ((bytesRow ⟨s.toArray⟩ (grownCap w s.length 0 5)).size, (bytesRow ⟨s.toArray⟩ (grownCap w s.length 0 5)).size + 1) j
    have f := World.frozen?_alloc_mark w.drew (bytesRow ⟨s.toArray⟩ (grownCap w s.length 0 5)) 5 (bytesRow ⟨s.toArray⟩ (grownCap w s.length 0 5)).size ((bytesRow ⟨s.toArray⟩ (grownCap w s.length 0 5)).size + 1) j
    refine ⟨(congrArg Option.isSome e).trans ?_, f.trans ?_⟩
    · simp [hcap]
    · simp; omega
  · simp
  · exact ((Below.refl _ _).drew).alloc (Nat.le_refl _) _
theorem wpList_push {ops : Array Oper} {rest : List Oper} {o : Oper} {a : Act} {w : World} {Q : Exit → Act → World → Prop} (hgd : o.guard = none) (s x : Operand) (ho : o.op = .call { callee := .builtin .append, args := #[s, x], argTypes := #[101, 101] })
    (base g cap : Nat) (X : List UInt8) (hs : a.eval s = .slice (some ⟨g, 0, none⟩) X.length cap) (hB : BB w base g cap X) (hbase : base ≤ w.heap.size)
    (p : Nat) (c : UInt8) (hx : a.eval x = .slice (some ⟨p, 0, none⟩) 1 1) (hp : w.cell? ⟨p, 0, none⟩ = some (.int .u8 (c.toNat : Int))) (hlen : X.length + 1 ≤ 140737488355328)
    (h : ∀ w' g' cap', BB w' base g' cap' (X ++ [c]) → Below base w w' → wpList Tryz.prog ops Q rest (a.put o.dst (.slice (some ⟨g', 0, none⟩) (X.length + 1) cap')) w') : wpList Tryz.prog ops Q (o :: rest) a w := by
  obtain ⟨i0, hi, hz0, hz1, hz2⟩ := info_parts info5H
  refine wpList_append_arg w hgd s x 101 ho 5 i0 (.int .u8 0) 1 1 Tryz.underlying101 hi hz0 hz1 hz2 rfl (by decide) g 0 X.length cap (X.map B) hs (by simp) ?_ ⟨p, 0, none⟩ 1 1 [B c] hx rfl ?_ ?_ ?_ (by unfold maxLen; omega) (by omega) ?_ ?_
  · intro j u hu
    have hj : j < X.length := by have := (List.getElem?_eq_some_iff.1 hu).1; simpa using this
    rw [Nat.zero_add, hB.cell j hj, ← hu]
    simp [B, hj]
  · intro j u hu
    match j, hu with
    | 0, hu => simp at hu; subst hu; simpa [Addr.add, B] using hp
  · intro u hu; simp at hu; subst hu; rfl
  · intro hr j hj
    simp at hj
    subst hj
    have := hB.spare X.length (by omega)
    simpa using this
  · intro hr
    refine h _ _ _ ⟨hB.hb, ?_, ?_, ?_⟩ ?_
    · intro j hj
      simp at hj
      simp only [Nat.zero_add, Nat.mul_one]
      by_cases e : j < X.length
      · rw [World.cell?_setCells_out _ _ _ _ _ (fun _ _ => .inl e), hB.cell j e]
        simp [e, List.getElem?_append_left]
      · have ej : j = X.length := by omega
        subst ej
        have := World.cell?_setCells_in g [B c] X.length w (fun k hk => by simp at hk; subst hk; exact (hB.spare X.length (by omega)).1) 0 (by simp)
        simp only [Nat.add_zero] at this
        rw [this]
        simp [B]
    · intro j hj
      rw [World.frozen?_setCells]
      refine ⟨?_, (hB.spare j hj).2⟩
      simp only [Nat.zero_add, Nat.mul_one]
      by_cases e : j = X.length
      · subst e
        have := World.cell?_setCells_in g [B c] X.length w (fun k hk => by simp at hk; subst hk; exact (hB.spare X.length (by omega)).1) 0 (by simp)
        simp only [Nat.add_zero] at this
        rw [this]; rfl
      · rw [World.cell?_setCells_out _ _ _ _ _ (fun _ _ => by simp; omega)]
        exact (hB.spare j hj).1
    · simpa [World.setCells, World.setCell] using hB.lt
    · simp only [World.setCells]
      exact (Below.refl base w).setCell (by exact hB.hb) _
  · intro hr v' w' hown hg
    have hbe : Below base w w' := (Below.refl base w).grown hg hbase (fun k e => by cases e)
    rcases hown.2 with ⟨_, q⟩ | ⟨g', cap', cur, e1, e2, e3, e4, e5, e6, e7⟩
    · omega
    · subst e1
      have hown' : w'.ownsRow w.heap.size 5 1 (.slice (some ⟨g', 0, none⟩) (X.length + 1) cap') (X.length + 1) ((X ++ [c]).map B) := by simpa using hown
      have := BB.of_owns hown'
      exact h _ _ _ ⟨Nat.le_trans hbase this.hb, this.cell, this.spare, this.lt⟩ hbe
theorem wpList_pushN {ops : Array Oper} {rest : List Oper} {o : Oper} {a : Act} {w : World} {Q : Exit → Act → World → Prop} (hgd : o.guard = none) (s x : Operand) (ho : o.op = .call { callee := .builtin .append, args := #[s, x], argTypes := #[101, 101] })
    (base g cap n : Nat) (X : List UInt8) (hn : X.length = n) (hs : a.eval s = .slice (some ⟨g, 0, none⟩) n cap) (hB : BB w base g cap X) (hbase : base ≤ w.heap.size)
    (p : Nat) (c : UInt8) (hx : a.eval x = .slice (some ⟨p, 0, none⟩) 1 1) (hp : w.cell? ⟨p, 0, none⟩ = some (.int .u8 (c.toNat : Int))) (hlen : n + 1 ≤ 140737488355328)
    (h : ∀ w' g' cap', BB w' base g' cap' (X ++ [c]) → Below base w w' → wpList Tryz.prog ops Q rest (a.put o.dst (.slice (some ⟨g', 0, none⟩) (n + 1) cap')) w') : wpList Tryz.prog ops Q (o :: rest) a w := by
  subst hn
  exact wpList_push hgd s x ho base g cap X hs hB hbase p c hx hp hlen h
theorem BB.textN {w : World} {base g cap n : Nat} {X : List UInt8} (h : BB w base g cap X) (hn : X.length = n) : (convert 101 9 (.slice (some ⟨g, 0, none⟩) n cap)).run Tryz.prog w = .ok (.string ⟨X.toArray⟩) w := by
  subst hn
  exact h.text
end Go.Proofs.YtmjaobddgaglhaaGreatDoor
namespace Go.Proofs.YtmjaobddgaglhaaGreatDoor
open Go.RowKit
open Sha
def zs (n : Nat) : Nat := (119 - n % 64) % 64
def fz (s : List UInt8) (j : Nat) : List UInt8 := s ++ [128] ++ List.replicate j 0
theorem fz_len (s : List UInt8) (j : Nat) : (fz s j).length = s.length + 1 + j := by simp [fz]; omega
theorem fz_zero (s : List UInt8) : fz s 0 = s ++ [128] := by simp [fz]
def lenOf : Value → Nat
  | .slice _ n _ => n
  | _ => 0
theorem fz_next (s : List UInt8) (j : Nat) : fz s j ++ [0] = fz s (j + 1) := by
  simp [fz, List.replicate_succ']
theorem fz_all (s : List UInt8) : fz s (zs s.length) ++ nb (8 * s.length) 8 = s ++ fil s.length := by
  simp [fz, fil, zs]
set_option maxHeartbeats 1000000 in
set_option maxRecDepth 8000 in
theorem rfilled_any (s : List UInt8) (w : World) (hs : s.length ≤ 140737488351232) :
    Calls Tryz.prog 117 #[.string ⟨s.toArray⟩] w fun e w' => e = .returned (.string ⟨(s ++ fil s.length).toArray⟩) ∧ Below w.heap.size w w' := by
  go_enter Tryz.func117, Tryz.ntmps117
  go_wp2_with (first | (refine wpList_bytesB rfl (.tmp 4) rfl s (by rfl) ?_; intro w1 cap hB hb1; have HB := hide hB; clear hB) | (refine wpList_push rfl (.tmp 6) (.tmp 7) rfl w.heap.size w.heap.size cap s (by rfl) ((unhide HB).below (alloc_below w1 _)) (by have := hb1.size; simp; omega) w1.heap.size 128 (by rfl) (by simp) (by omega) ?_; intro w2 g2 cap2 hB2 hb2))
  have hI0 : BB w2 w.heap.size g2 cap2 (fz s 0) := by
    rw [fz_zero]
    exact hB2
  have hbe2 : Below w.heap.size w w2 := (hb1.alloc hb1.size _).trans hb2
  have HI0 := hide hI0
  clear HB hB2 hb1 hb2 hI0
  go_loopw [3] (fun v wr => ∃ (j g cap : Nat), j ≤ zs s.length ∧ v = .slice (some ⟨g, 0, none⟩) (s.length + 1 + j) cap ∧ BB wr w.heap.size g cap (fz s j) ∧ Below w.heap.size w wr) (fun v _ => s.length + 1 + zs s.length - lenOf v)
  case atStart => exact ⟨0, g2, cap2, by omega, rfl, unhide HI0, hbe2⟩
  case round =>
    clear HI0 hbe2
    obtain ⟨j, g, cap', hj, rfl, hI, hbe⟩ := hrel
    have hz : zs s.length = (119 - s.length % 64) % 64 := rfl
    by_cases hlt : j < zs s.length
    · have hne : ((s.length + 1 + j : Nat) : Int) % 64 ≠ 56 := by omega
      have HI := hide hI
      clear hI
      go_wp2_with (refine wpList_pushN rfl (.tmp 13) (.tmp 14) rfl w.heap.size g cap' (s.length + 1 + j) (fz s j) (fz_len s j) (by rfl) ((unhide HI).below (alloc_below wr _)) (by have := hbe.size; simp; omega) wr.heap.size 0 (by rfl) (by simp) (by omega) ?_; intro w3 g3 cap3 hB3 hb3)
      rw [fz_next] at hB3
      go_roundw
      case rel => exact ⟨j + 1, g3, cap3, by omega, rfl, hB3, (hbe.alloc hbe.size _).trans hb3⟩
      case measure => simp only [lenOf]; omega
    · have hjz : j = zs s.length := by omega
      have heq : (((s.length : Int) + 1 + (j : Int)) % 64) = 56 := by omega
      have heq' : ((((s.length : Int) + 1 + (j : Int)) % 64) != 56) = false := by rw [heq]; rfl
      clear hj
      have hT : ∀ w', Below wr.heap.size wr w' → (convert 101 9 (.slice (some ⟨g, 0, none⟩) (s.length + 1 + j) cap')).run Tryz.prog w' = .ok (.string ⟨(fz s j).toArray⟩) w' := fun w' hb => (hI.below hb).textN (fz_len s j)
      have hF := hide (show fz s j ++ nb (8 * s.length) 8 = s ++ fil s.length by rw [hjz]; exact fz_all s)
      have hT1 := hT wr.drew ((Below.refl wr.heap.size wr).drew)
      have hXl : (fz s j).length ≤ 140737488351296 := by rw [fz_len]; omega
      have hl8 : (nb (8 * s.length) 8).length ≤ 8 := by simp [nb]
      generalize fz s j = X at *
      clear hI hlt hz hjz
      go_wp2_with fail
      have hW8 : IntKind.i64.wrap (8 * (s.length : Int)) = ((8 * s.length : Nat) : Int) := by rw [IntKind.wrap_i64]; omega
      have hq : ∀ w', Calls Tryz.prog 121 #[.int .i64 (IntKind.i64.wrap (8 * (s.length : Int))), .int .i64 8] w' fun e w'' => e = .returned (.string ⟨(nb (8 * s.length) 8).toArray⟩) ∧ Below w'.heap.size w' w'' :=
        fun w' => big_int (IntKind.i64.wrap (8 * (s.length : Int))) 8 (8 * s.length) 8 hW8 rfl w' (by omega) (by omega) (by omega)
      clear heq heq' hW8
      go_region_with (go_at_call 121; refine (hq _).mono ?_; rintro e wb ⟨rfl, hbb⟩; have hT2 := hT wb (((Below.refl wr.heap.size wr).drew).trans hbb))
      all_goals (go_wp2; go_ret)
      all_goals refine ⟨?_, hbe.trans ((((Below.refl wr.heap.size wr).drew).trans hbb).mono hbe.size)⟩
      all_goals (rw [← unhide hF, ← bytes_append]; rfl)
end Go.Proofs.YtmjaobddgaglhaaGreatDoor
