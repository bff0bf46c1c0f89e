import Derived.Test.YthlacailhfhjnaaGreatDoorWde
import Derived.Lib.AppendStr
namespace Go.Proofs.YthlacailhfhjnaaGreatDoor
open Go.RowKit Go.Lib
/-- Bytes that lie in memory from a place on. -/
structure Bys (g off cap : Nat) (R : List UInt8) (w : World) : Prop where
  cell : ∀ j, j < R.length → w.cell? ⟨g, off + j, none⟩ = some (.int .u8 ((R.getD j 0).toNat : Int))
  cap : R.length ≤ cap
  lt : g < w.heap.size
/-- The bytes of a text in new memory, that may be written to. -/
theorem wpList_bytesF {ops : Array Oper} {rest : List Oper} {o : Oper} {a : Act} {w : World} {Q : Exit → Act → World → Prop} (hgd : o.guard = none) (x : Operand) (ho : o.op = .convert 9 102 x)
    (s : List UInt8) (hx : a.eval x = .string ⟨s.toArray⟩)
    (h : ∀ w' cap, Bys w.heap.size 0 cap s w' → (∀ j, j < s.length → w'.frozen? ⟨w.heap.size, j, none⟩ = false) → Below w.heap.size w w' → wpList Tryz.prog ops Q rest (a.put o.dst (.slice (some ⟨w.heap.size, 0, none⟩) s.length cap)) w') : wpList Tryz.prog ops Q (o :: rest) a w := by
  refine wpList_plain hgd fun K hK => ?_
  have hrun := run_bytes_of_string (P := Tryz.prog) w 9 102 5 ⟨s.toArray⟩ Tryz.underlying9 Tryz.underlying102 Tryz.underlying5
  have hsz : (ByteArray.mk s.toArray).size = s.length := by simp [ByteArray.size]
  unfold Oper.wp execOp
  simp only [ho, hx, Sem.run_bind, hrun, Result.andThen_ok]
  rw [hsz]
  refine hK _ _ (h _ _ ⟨?_, ?_, ?_⟩ ?_ ?_)
  · intro j hj
    rw [Nat.zero_add]
    have e := World.cell?_alloc_mark w.drew (bytesRow ⟨s.toArray⟩ (grownCap w s.length 0 5)) 5 ((bytesRow ⟨s.toArray⟩ (grownCap w s.length 0 5)).size, (bytesRow ⟨s.toArray⟩ (grownCap w s.length 0 5)).size + 1) j
    refine e.trans ?_
    rw [bytesRow_at _ _ _ (by simpa using hj)]
    simp [hj]
  · exact grownCap_ge w s.length 0 5
  · simp
  · intro j hj
    have f := World.frozen?_alloc_mark w.drew (bytesRow ⟨s.toArray⟩ (grownCap w s.length 0 5)) 5 (bytesRow ⟨s.toArray⟩ (grownCap w s.length 0 5)).size ((bytesRow ⟨s.toArray⟩ (grownCap w s.length 0 5)).size + 1) j
    refine f.trans ?_
    have : s.length ≤ (bytesRow ⟨s.toArray⟩ (grownCap w s.length 0 5)).size := by simp [bytesRow, hsz]
    simp; omega
  · exact ((Below.refl _ _).drew).alloc (Nat.le_refl _) _
def sml (s : Bs) (k : Nat) : Bs := (s.take k).map low ++ s.drop k
theorem sml_len (s : Bs) (k : Nat) : (sml s k).length = s.length := by simp [sml]; omega
theorem sml_at (s : Bs) (k j : Nat) (hj : j < s.length) : (sml s k).getD j 0 = if j < k then low (s.getD j 0) else s.getD j 0 := by
  unfold sml
  rw [List.getD_eq_getElem?_getD, List.getElem?_append]
  by_cases h : j < k
  · rw [if_pos (by simp; omega), if_pos h]
    simp [h, hj]
  · rw [if_neg (by simp; omega), if_neg h]
    simp only [List.length_map, List.length_take, List.getElem?_drop]
    rw [show min k s.length = k by omega, show k + (j - k) = j by omega]
    simp
/-- The bytes of a text, of which some were made small. -/
structure Smb (g : Nat) (s : Bs) (k : Nat) (w wr : World) : Prop where
  cell : ∀ j, j < s.length → wr.cell? ⟨g, j, none⟩ = some (.int .u8 (((sml s k).getD j 0).toNat : Int))
  fz : ∀ j, j < s.length → wr.frozen? ⟨g, j, none⟩ = false
  lt : g < wr.heap.size
  bel : Below w.heap.size w wr
theorem Smb.same {g : Nat} {s : Bs} {k : Nat} {w wr : World} (h : Smb g s k w wr) (hk : k < s.length) (hu : up (s.getD k 0) = false) : Smb g s (k + 1) w wr := by
  refine ⟨fun j hj => ?_, h.fz, h.lt, h.bel⟩
  rw [h.cell j hj, sml_at s k j hj, sml_at s (k + 1) j hj]
  by_cases e : j = k
  · subst e
    rw [if_neg (by omega), if_pos (by omega)]
    unfold low
    rw [hu]
    simp
  · by_cases e2 : j < k
    · rw [if_pos e2, if_pos (by omega)]
    · rw [if_neg e2, if_neg (by omega)]
theorem Smb.set {g : Nat} {s : Bs} {k : Nat} {w wr : World} (h : Smb g s k w wr) (hk : k < s.length) (hg : w.heap.size ≤ g) : Smb g s (k + 1) w (wr.setCell ⟨g, k, none⟩ (.int .u8 ((low (s.getD k 0)).toNat : Int))) := by
  refine ⟨fun j hj => ?_, fun j hj => ?_, by simpa [World.setCell] using h.lt, h.bel.setCell hg _⟩
  · rw [sml_at s (k + 1) j hj]
    by_cases e : j = k
    · subst e
      rw [if_pos (by omega)]
      exact World.cell?_setCell_same _ _ _ (h.cell j hj)
    · have hne : (⟨g, k, none⟩ : Addr) ≠ ⟨g, j, none⟩ := fun q => e (by injection q with _ q2; exact q2.symm)
      rw [World.cell?_setCell_other _ _ _ _ hne, h.cell j hj, sml_at s k j hj]
      by_cases e2 : j < k
      · rw [if_pos e2, if_pos (by omega)]
      · rw [if_neg e2, if_neg (by omega)]
  · rw [World.frozen?_setCell]
    exact h.fz j hj
set_option maxHeartbeats 8000000 in
set_option maxRecDepth 8000 in
theorem small_any (s : Bs) (w : World) (hs : s.length ≤ 1000000000) : Calls Tryz.prog 45 #[S s] w fun e w' => e = .returned (S (s.map low)) ∧ Below w.heap.size w w' := by
  go_enter Tryz.func45, Tryz.ntmps45
  go_wp2_with (refine wpList_bytesF rfl (.tmp 5) rfl s (by rfl) ?_; intro w1 cap1 hb1 hf1 hbe1)
  have H0 := hide (show Smb w.heap.size s 0 w w1 from ⟨fun j hj => by rw [sml_at s 0 j hj, if_neg (by omega)]; have := hb1.cell j hj; rwa [Nat.zero_add] at this, hf1, hb1.lt, hbe1⟩)
  have hcap := hb1.cap
  clear hb1 hf1 hbe1
  go_loopw [4] (fun i wr => ∃ k : Nat, k ≤ s.length ∧ i = .int .i64 k ∧ Smb w.heap.size s k w wr) (fun i _ => s.length - (Go.RowKit.intOf i).toNat)
  case atStart => exact ⟨0, by omega, rfl, unhide H0⟩
  case round =>
    obtain ⟨k, hk, rfl, hi⟩ := hrel
    clear H0
    by_cases hlt : k < s.length
    · have hc := hi.cell k hlt
      rw [sml_at s k k hlt, if_neg (by omega)] at hc
      have hf := hi.fz k hlt
      have hl := hi.lt
      have hki : (k : Int) < (s.length : Int) := by omega
      by_cases hu : up (s.getD k 0) = true
      · have hu2 : 65 ≤ (s.getD k 0).toNat ∧ (s.getD k 0).toNat ≤ 90 := by unfold up at hu; simpa using hu
        have hlow : (low (s.getD k 0)).toNat = (s.getD k 0).toNat + 32 := by
          unfold low
          rw [if_pos hu, UInt8.toNat_add]
          show ((s.getD k 0).toNat + 32) % 256 = _
          omega
        have HS := hide (hi.set hlt (Nat.le_refl _))
        rw [hlow] at HS
        generalize (s.getD k 0).toNat = n at *
        have i1 : (65 : Int) ≤ (n : Int) := by omega
        have i2 : (n : Int) ≤ 90 := by omega
        have i3 : (n : Int) + 32 ≤ 255 := by omega
        clear hi hu hlow
        go_wp2
        refine ⟨⟨k + 1, by omega, by go_num, ?_⟩, ?_⟩
        · have := unhide HS
          simpa using this
        · simp [Go.RowKit.intOf]; omega
      · have hu' : up (s.getD k 0) = false := by simpa using hu
        have HS := hide (hi.same hlt hu')
        have hu2 : ¬ (65 ≤ (s.getD k 0).toNat ∧ (s.getD k 0).toNat ≤ 90) := by unfold up at hu'; simpa using hu'
        generalize (s.getD k 0).toNat = n at *
        clear hi hu hu'
        by_cases h1 : 65 ≤ n
        · have i1 : (65 : Int) ≤ (n : Int) := by omega
          have i2 : ¬ (n : Int) ≤ 90 := by omega
          have i3 : decide ((n : Int) ≤ 90) = false := by simpa using i2
          go_wp2
          refine ⟨⟨k + 1, by omega, by go_num, unhide HS⟩, ?_⟩
          simp [Go.RowKit.intOf]; omega
        · have i1 : ¬ (65 : Int) ≤ (n : Int) := by omega
          have i3 : decide ((65 : Int) ≤ (n : Int)) = false := by simpa using i1
          go_wp2
          refine ⟨⟨k + 1, by omega, by go_num, unhide HS⟩, ?_⟩
          simp [Go.RowKit.intOf]; omega
    · have hd : decide (k < s.length) = false := by simp; omega
      have hke : k = s.length := by omega
      have HT : Hid ((convert 102 9 (.slice (some ⟨w.heap.size, 0, none⟩) s.length cap1)).run Tryz.prog wr = .ok (S (s.map low)) wr) := hide (by
        refine run_text wr w.heap.size 0 s.length cap1 (s.map low) (by simp) ?_
        intro j hj
        rw [Nat.zero_add, hi.cell j hj, sml_at s k j hj, if_pos (by omega)]
        simp [hj])
      have HB := hide hi.bel
      clear hi hke
      go_wp2_with (first | (refine wpList_conv rfl 102 9 (.tmp 33) rfl _ _ (by rfl) (unhide HT) ?_))
      go_ret
      exact ⟨rfl, unhide HB⟩
end Go.Proofs.YthlacailhfhjnaaGreatDoor
