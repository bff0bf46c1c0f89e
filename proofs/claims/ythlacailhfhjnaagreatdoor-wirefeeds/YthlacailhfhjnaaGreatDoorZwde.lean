import Derived.Test.YthlacailhfhjnaaGreatDoorZwdd
import Derived.Test.YthlacailhfhjnaaGreatDoorZwbd
import Derived.Test.YthlacailhfhjnaaGreatDoorWcf
import Derived.Lib.AppendStr
import Derived.Deep.QuietTactic
import Derived.BigQuiet
namespace Go.Proofs.YthlacailhfhjnaaGreatDoor
open Go.RowKit Go.Lib
def addv (n m : Int) : Int := if 2147483647 - n < m then 2147483648 else n + m
def pkv (c : Int) (n : Nat) : Nat := ((if c < 0 then -(c + 1) else c) % n).toNat
theorem pkv_lt (c : Int) (n : Nat) (h : 0 < n) : pkv c n < n := by
  unfold pkv
  have h1 := Int.emod_lt_of_pos (if c < 0 then -(c + 1) else c) (show (0 : Int) < n by omega)
  have h2 := Int.emod_nonneg (if c < 0 then -(c + 1) else c) (show (n : Int) ≠ 0 by omega)
  omega
set_option maxHeartbeats 2000000 in
theorem pick_any (c : Int) (n : Nat) (w : World) (hn : 0 < n) (hn2 : n ≤ 9000000000000000000) (h1 : -9223372036854775808 ≤ c) (h2 : c ≤ 9223372036854775807) : Calls Tryz.prog 15 #[.int .i64 c, .int .i64 (n : Int)] w fun e w' => e = .returned (.int .i64 (pkv c n : Nat)) ∧ w' = w := by
  have hni : ¬ (n : Int) = 0 := by omega
  by_cases h : c < 0
  · have e : ((pkv c n : Nat) : Int) = Int.tmod (-(c + 1)) n := by
      unfold pkv
      rw [if_pos h, Int.tmod_eq_emod_of_nonneg (by omega)]
      have := Int.emod_nonneg (-(c + 1)) (show (n : Int) ≠ 0 by omega)
      omega
    have HE := hide e
    clear e
    go_enter Tryz.func15, Tryz.ntmps15
    go_wp2
    go_ret
    exact ⟨ret_int (by rw [unhide HE, Int.neg_tmod]), rfl⟩
  · have e : ((pkv c n : Nat) : Int) = c % n := by
      unfold pkv
      rw [if_neg h]
      have := Int.emod_nonneg c (show (n : Int) ≠ 0 by omega)
      omega
    have HE := hide e
    clear e
    go_enter Tryz.func15, Tryz.ntmps15
    go_wp2
    go_ret
    exact ⟨ret_int (unhide HE).symm, rfl⟩
end Go.Proofs.YthlacailhfhjnaaGreatDoor
namespace Go.Proofs.YthlacailhfhjnaaGreatDoor
open Go.RowKit Go.Lib
/-- Bytes that lie in memory from a place on. -/
structure Bys (g off cap : Nat) (R : List UInt8) (w : World) : Prop where
  cell : ∀ j, j < R.length → w.cell? ⟨g, off + j, none⟩ = some (.int .u8 ((R.getD j 0).toNat : Int))
  cap : R.length ≤ cap
  lt : g < w.heap.size
/-- The bytes of a text in new memory, that may be written to. -/
theorem wpList_bytesF {ops : Array Oper} {rest : List Oper} {o : Oper} {a : Act} {w : World} {Q : Exit → Act → World → Prop} (hgd : o.guard = none) (x : Operand) (ho : o.op = .convert 9 102 x)
    (s : List UInt8) (hx : a.eval x = .string ⟨s.toArray⟩)
    (h : ∀ w' cap, Bys w.heap.size 0 cap s w' → (∀ j, j < s.length → w'.frozen? ⟨w.heap.size, j, none⟩ = false) → Below w.heap.size w w' → wpList Tryz.prog ops Q rest (a.put o.dst (.slice (some ⟨w.heap.size, 0, none⟩) s.length cap)) w') : wpList Tryz.prog ops Q (o :: rest) a w := by
  refine wpList_plain hgd fun K hK => ?_
  have hrun := run_bytes_of_string (P := Tryz.prog) w 9 102 5 ⟨s.toArray⟩ Tryz.underlying9 Tryz.underlying102 Tryz.underlying5
  have hsz : (ByteArray.mk s.toArray).size = s.length := by simp [ByteArray.size]
  unfold Oper.wp execOp
  simp only [ho, hx, Sem.run_bind, hrun, Result.andThen_ok]
  rw [hsz]
  refine hK _ _ (h _ _ ⟨?_, ?_, ?_⟩ ?_ ?_)
  · intro j hj
    rw [Nat.zero_add]
    have e := World.cell?_alloc_mark w.drew (bytesRow ⟨s.toArray⟩ (grownCap w s.length 0 5)) 5 ((bytesRow ⟨s.toArray⟩ (grownCap w s.length 0 5)).size, (bytesRow ⟨s.toArray⟩ (grownCap w s.length 0 5)).size + 1) j
    refine e.trans ?_
    rw [bytesRow_at _ _ _ (by simpa using hj)]
    simp [hj]
  · exact grownCap_ge w s.length 0 5
  · simp
  · intro j hj
    have f := World.frozen?_alloc_mark w.drew (bytesRow ⟨s.toArray⟩ (grownCap w s.length 0 5)) 5 (bytesRow ⟨s.toArray⟩ (grownCap w s.length 0 5)).size ((bytesRow ⟨s.toArray⟩ (grownCap w s.length 0 5)).size + 1) j
    refine f.trans ?_
    have : s.length ≤ (bytesRow ⟨s.toArray⟩ (grownCap w s.length 0 5)).size := by simp [bytesRow, hsz]
    simp; omega
  · exact ((Below.refl _ _).drew).alloc (Nat.le_refl _) _
def sml (s : Bs) (k : Nat) : Bs := (s.take k).map low ++ s.drop k
theorem sml_at (s : Bs) (k j : Nat) (hj : j < s.length) : (sml s k).getD j 0 = if j < k then low (s.getD j 0) else s.getD j 0 := by
  unfold sml
  rw [List.getD_eq_getElem?_getD, List.getElem?_append]
  by_cases h : j < k
  · rw [if_pos (by simp; omega), if_pos h]
    simp [h, hj]
  · rw [if_neg (by simp; omega), if_neg h]
    simp only [List.length_map, List.length_take, List.getElem?_drop]
    rw [show min k s.length = k by omega, show k + (j - k) = j by omega]
    simp
/-- The bytes of a text, of which some were made small. -/
structure Smb (g : Nat) (s : Bs) (k : Nat) (w wr : World) : Prop where
  cell : ∀ j, j < s.length → wr.cell? ⟨g, j, none⟩ = some (.int .u8 (((sml s k).getD j 0).toNat : Int))
  fz : ∀ j, j < s.length → wr.frozen? ⟨g, j, none⟩ = false
  lt : g < wr.heap.size
  bel : Below w.heap.size w wr
theorem Smb.same {g : Nat} {s : Bs} {k : Nat} {w wr : World} (h : Smb g s k w wr) (hk : k < s.length) (hu : up (s.getD k 0) = false) : Smb g s (k + 1) w wr := by
  refine ⟨fun j hj => ?_, h.fz, h.lt, h.bel⟩
  rw [h.cell j hj, sml_at s k j hj, sml_at s (k + 1) j hj]
  by_cases e : j = k
  · subst e
    rw [if_neg (by omega), if_pos (by omega)]
    unfold low
    rw [hu]
    simp
  · by_cases e2 : j < k
    · rw [if_pos e2, if_pos (by omega)]
    · rw [if_neg e2, if_neg (by omega)]
theorem Smb.set {g : Nat} {s : Bs} {k : Nat} {w wr : World} (h : Smb g s k w wr) (hk : k < s.length) (hg : w.heap.size ≤ g) : Smb g s (k + 1) w (wr.setCell ⟨g, k, none⟩ (.int .u8 ((low (s.getD k 0)).toNat : Int))) := by
  refine ⟨fun j hj => ?_, fun j hj => ?_, by simpa [World.setCell] using h.lt, h.bel.setCell hg _⟩
  · rw [sml_at s (k + 1) j hj]
    by_cases e : j = k
    · subst e
      rw [if_pos (by omega)]
      exact World.cell?_setCell_same _ _ _ (h.cell j hj)
    · have hne : (⟨g, k, none⟩ : Addr) ≠ ⟨g, j, none⟩ := fun q => e (by injection q with _ q2; exact q2.symm)
      rw [World.cell?_setCell_other _ _ _ _ hne, h.cell j hj, sml_at s k j hj]
      by_cases e2 : j < k
      · rw [if_pos e2, if_pos (by omega)]
      · rw [if_neg e2, if_neg (by omega)]
  · rw [World.frozen?_setCell]
    exact h.fz j hj
end Go.Proofs.YthlacailhfhjnaaGreatDoor
namespace Go.Proofs.YthlacailhfhjnaaGreatDoor
open Go.RowKit Go.Lib
def wth (a b : Nat) (c : UInt8) : Bool := decide (a ≤ c.toNat ∧ c.toNat ≤ b)
theorem wth_up (s : Bs) : s.all (wth 65 90) = s.all up := rfl
theorem wth_shn (s : Bs) : s.all (wth 32 126) = s.all shn := rfl
theorem wth_dgt (s : Bs) : s.all (wth 48 57) = s.all dgt := rfl
theorem wth_pby (s : Bs) : s.all (wth 33 126) = s.all pby := by
  have q : ∀ c : UInt8, wth 33 126 c = pby c := all_u8 (by decide +kernel)
  exact congrArg s.all (funext q)
set_option maxHeartbeats 4000000 in
set_option maxRecDepth 8000 in
theorem within_any (s : Bs) (a b : Nat) (w : World) (hs : s.length ≤ 9223372036854775806) : Calls Tryz.prog 82 #[S s, .int .u8 (a : Int), .int .u8 (b : Int)] w fun e w' => e = .returned (.bool (s.all (wth a b))) ∧ w' = w := by
  go_enter Tryz.func82, Tryz.ntmps82
  go_wp2
  go_loop [7] (fun i => ∃ k : Nat, k ≤ s.length ∧ i = .int .i64 k ∧ (s.take k).all (wth a b) = true) (fun i => s.length - (Go.RowKit.intOf i).toNat)
  case atStart => exact ⟨0, by omega, rfl, by simp⟩
  case round =>
    obtain ⟨k, hk, rfl, ha⟩ := hrel
    by_cases hlt : k < s.length
    · have hsz : k < (ByteArray.mk s.toArray).size := by simpa [ByteArray.size] using hlt
      have hC : (ByteArray.mk s.toArray)[k]'hsz = s[k] := rfl
      have hA := hide ha
      have hT := hide (take_snoc s k hlt)
      have hE := hide (all_no (wth a b) s k hlt)
      have hklt : (k : Int) < (s.length : Int) := by omega
      clear ha
      generalize s[k] = c at *
      have hI := hide (show wth a b c = decide (a ≤ c.toNat ∧ c.toNat ≤ b) from rfl)
      by_cases q0 : a ≤ c.toNat
      · by_cases q1 : c.toNat ≤ b
        · have hR := hide (show (s.take (k + 1)).all (wth a b) = true by rw [unhide hT]; simp [unhide hA, unhide hI, q0, q1])
          have f0 : ¬ ((c.toNat : Int) < (a : Int)) := by omega
          have f1 : ¬ ((b : Int) < (c.toNat : Int)) := by omega
          clear hE hT hA hI q0 q1
          go_wp2
          refine ⟨⟨k + 1, by omega, by go_num, unhide hR⟩, ?_⟩
          simp [Go.RowKit.intOf]; omega
        · have hR := hide (unhide hE (by rw [unhide hI]; simp; omega))
          have f0 : ¬ ((c.toNat : Int) < (a : Int)) := by omega
          have f1 : (b : Int) < (c.toNat : Int) := by omega
          clear hE hT hA hI q0 q1
          go_wp2
          go_ret
          exact ⟨ret_bool (unhide hR).symm, rfl⟩
      · have hR := hide (unhide hE (by rw [unhide hI]; simp; omega))
        have f0 : (c.toNat : Int) < (a : Int) := by omega
        clear hE hT hA hI q0
        go_wp2
        go_ret
        exact ⟨ret_bool (unhide hR).symm, rfl⟩
    · have hR := hide (show s.all (wth a b) = true by rw [List.take_of_length_le (by omega)] at ha; exact ha)
      have hd : decide ((k : Int) < (s.length : Int)) = false := by simp; omega
      clear ha
      go_wp2
      go_ret
      exact ⟨ret_bool (unhide hR).symm, rfl⟩
set_option maxHeartbeats 4000000 in
set_option maxRecDepth 8000 in
theorem rMethod_any (s : Bs) (w : World) (hs : s.length ≤ 9223372036854775806) : Calls Tryz.prog 70 #[S s] w fun e w' => e = .returned (.bool (meth s)) ∧ w' = w := by
  have HW := hide (within_any s 65 90 w hs)
  rw [wth_up] at HW
  have HM : Hid (meth s = (decide (1 ≤ s.length ∧ s.length ≤ 16) && s.all up)) := hide rfl
  generalize s.all up = A at *
  generalize meth s = M at *
  go_enter Tryz.func70, Tryz.ntmps70
  go_wp2_with fail
  refine (unhide HW).mono ?_
  rintro e w1 ⟨rfl, hw⟩
  rw [hw]
  clear hw HW w1
  cases A
  · go_wp2
    go_ret
    exact ⟨ret_bool (by rw [unhide HM]; simp), rfl⟩
  · by_cases h1 : 1 ≤ s.length
    · have h1' : (1 : Int) ≤ (s.length : Int) := by omega
      go_wp2
      go_ret
      exact ⟨ret_bool (by rw [unhide HM, Bool.and_true]; exact decide_eq_decide.2 (by omega)), rfl⟩
    · have h1' : decide ((1 : Int) ≤ (s.length : Int)) = false := by simp; omega
      go_wp2
      go_ret
      exact ⟨ret_bool (by rw [unhide HM, Bool.and_true, decide_eq_false (by omega)]), rfl⟩
theorem head_at (s : Bs) (h : 0 < s.length) : s.head? = some s[0] := by
  cases s with
  | nil => simp at h
  | cons a l => rfl
set_option maxHeartbeats 4000000 in
set_option maxRecDepth 8000 in
theorem rPath_any (s : Bs) (w : World) (hs : s.length ≤ 9223372036854775806) : Calls Tryz.prog 71 #[S s] w fun e w' => e = .returned (.bool (pth s)) ∧ w' = w := by
  have HW := hide (within_any s 33 126 w hs)
  rw [wth_pby] at HW
  have HM : Hid (pth s = (decide (s.length ≤ 200) && s.head? == some 47 && s.all pby)) := hide rfl
  generalize s.all pby = A at *
  generalize pth s = M at *
  go_enter Tryz.func71, Tryz.ntmps71
  go_wp2_with fail
  refine (unhide HW).mono ?_
  rintro e w1 ⟨rfl, hw⟩
  rw [hw]
  clear hw HW w1
  cases A
  · go_wp2
    go_ret
    exact ⟨ret_bool (by rw [unhide HM]; simp), rfl⟩
  · by_cases h1 : 1 ≤ s.length
    · have h1' : (1 : Int) ≤ (s.length : Int) := by omega
      by_cases h2 : s.length ≤ 200
      · have h2' : (s.length : Int) ≤ 200 := by omega
        have hsz : 0 < (ByteArray.mk s.toArray).size := by simp [ByteArray.size]; omega
        have hC : (ByteArray.mk s.toArray)[0]'hsz = s[0] := rfl
        have hH := hide (head_at s (by omega))
        rw [unhide hH] at HM
        generalize s[0] = c at *
        have h0 : (0 : Int) < (s.length : Int) := by omega
        go_wp2
        go_ret
        refine ⟨ret_bool ?_, rfl⟩
        rw [unhide HM, decide_eq_true h2, Bool.and_true, Bool.true_and]
        have q : ∀ c : UInt8, ((c.toNat : Int) == 47) = (some c == some 47) := all_u8 (by decide +kernel)
        exact q c
      · have h2' : decide ((s.length : Int) ≤ 200) = false := by simp; omega
        go_wp2
        go_ret
        exact ⟨ret_bool (by rw [unhide HM, decide_eq_false h2]; rfl), rfl⟩
    · have h1' : decide ((1 : Int) ≤ (s.length : Int)) = false := by simp; omega
      obtain rfl : s = [] := List.eq_nil_of_length_eq_zero (by omega)
      go_wp2
      go_ret
      exact ⟨ret_bool (by rw [unhide HM]; rfl), rfl⟩
def sg14 : Bs := [33, 35, 36, 37, 38, 39, 42, 43, 45, 46, 94, 95, 124, 126]
theorem nby_iff (c : UInt8) : nby c = (decide (97 ≤ c.toNat ∧ c.toNat ≤ 122) || decide (65 ≤ c.toNat ∧ c.toNat ≤ 90) || decide (48 ≤ c.toNat ∧ c.toNat ≤ 57) || decide (c.toNat = 96) || sg14.contains c) := by
  have q : ∀ c : UInt8, nby c = (decide (97 ≤ c.toNat ∧ c.toNat ≤ 122) || decide (65 ≤ c.toNat ∧ c.toNat ≤ 90) || decide (48 ≤ c.toNat ∧ c.toNat ≤ 57) || decide (c.toNat = 96) || sg14.contains c) := all_u8 (by decide +kernel)
  exact q c
theorem u8_eq (a c : UInt8) : (a.toNat : Int) = (c.toNat : Int) ↔ a = c := by
  constructor
  · intro h
    exact UInt8.toNat_inj.1 (by omega)
  · rintro rfl; rfl
/-- The signs, one by one. -/
theorem signs_walk (c : UInt8) (k : Nat) (hk : k < sg14.length) (h : (sg14.take k).contains c = false) : (sg14[k] = c → sg14.contains c = true) ∧ (sg14[k] ≠ c → (sg14.take (k + 1)).contains c = false) := by
  refine ⟨fun e => ?_, fun e => ?_⟩
  · rw [← e]
    simp
  · rw [take_snoc sg14 k hk, List.contains_append, h]
    simp
    exact fun q => e q.symm
end Go.Proofs.YthlacailhfhjnaaGreatDoor
namespace Go.Proofs.YthlacailhfhjnaaGreatDoor
open Go.RowKit Go.Lib
set_option maxHeartbeats 8000000 in
set_option maxRecDepth 8000 in
theorem tokA (c : UInt8) (w : World) (h : c.toNat < 48) :
    Calls Tryz.prog 101 #[.int .u8 (c.toNat : Int)] w fun e w' => e = .returned (.bool (sg14.contains c)) ∧ w' = w := by
  have HW := hide (signs_walk c)
  have HQ := hide (fun a : UInt8 => u8_eq a c)
  have HF : Hid (sg14.take 14 = sg14) := hide rfl
  have a0 : ¬ (97 : Int) ≤ (c.toNat : Int) := by omega
  have a1 : ¬ (65 : Int) ≤ (c.toNat : Int) := by omega
  have a2 : ¬ (48 : Int) ≤ (c.toNat : Int) := by omega
  have a3 : ¬ (c.toNat : Int) = 96 := by omega
  clear h
  generalize hG : sg14.contains c = G at *
  go_enter Tryz.func101, Tryz.ntmps101
  go_wp2
  go_loop [4] (fun i => ∃ k : Nat, k ≤ 14 ∧ i = .int .i64 k ∧ (sg14.take k).contains c = false) (fun i => 14 - (Go.RowKit.intOf i).toNat)
  case atStart => exact ⟨0, by omega, rfl, rfl⟩
  case round =>
    obtain ⟨k, hk, rfl, ha⟩ := hrel
    have HA := hide ha
    have HG := hide hG
    clear ha hG
    by_cases hlt : k < 14
    · have hlt' : (k : Int) < 14 := by omega
      have hsz : k < (ByteArray.mk #[33, 35, 36, 37, 38, 39, 42, 43, 45, 46, 94, 95, 124, 126]).size := hlt
      have hC : (ByteArray.mk #[33, 35, 36, 37, 38, 39, 42, 43, 45, 46, 94, 95, 124, 126])[k]'hsz = sg14[k]'hlt := rfl
      have HX := hide (unhide HW k hlt (unhide HA))
      have HY := hide (unhide HQ (sg14[k]'hlt))
      generalize sg14[k]'hlt = x at *
      clear HA HW HQ
      by_cases e : x = c
      · have hR := hide ((unhide HX).1 e)
        have heq := (unhide HY).2 e
        go_wp2
        go_ret
        exact ⟨ret_bool (unhide hR).symm, rfl⟩
      · have hR := hide ((unhide HX).2 e)
        have hne : ¬ (x.toNat : Int) = (c.toNat : Int) := fun q => e ((unhide HY).1 q)
        go_wp2
        refine ⟨⟨k + 1, by omega, by go_num, unhide hR⟩, ?_⟩
        simp [Go.RowKit.intOf]; omega
    · have hlt' : decide ((k : Int) < 14) = false := by simp; omega
      obtain rfl : k = 14 := by omega
      have hR := hide (show G = false by rw [← unhide HG, ← unhide HA, unhide HF])
      clear HA HW HQ
      go_wp2
      go_ret
      exact ⟨ret_bool (unhide hR).symm, rfl⟩
set_option maxHeartbeats 8000000 in
set_option maxRecDepth 8000 in
theorem tokB (c : UInt8) (w : World) (h : 57 < c.toNat ∧ c.toNat < 65) :
    Calls Tryz.prog 101 #[.int .u8 (c.toNat : Int)] w fun e w' => e = .returned (.bool (sg14.contains c)) ∧ w' = w := by
  have HW := hide (signs_walk c)
  have HQ := hide (fun a : UInt8 => u8_eq a c)
  have HF : Hid (sg14.take 14 = sg14) := hide rfl
  have a0 : ¬ (97 : Int) ≤ (c.toNat : Int) := by omega
  have a1 : ¬ (65 : Int) ≤ (c.toNat : Int) := by omega
  have a2 : (48 : Int) ≤ (c.toNat : Int) := by omega
  have a3 : ¬ (c.toNat : Int) ≤ 57 := by omega
  have a4 : ¬ (c.toNat : Int) = 96 := by omega
  clear h
  generalize hG : sg14.contains c = G at *
  go_enter Tryz.func101, Tryz.ntmps101
  go_wp2
  go_loop [4] (fun i => ∃ k : Nat, k ≤ 14 ∧ i = .int .i64 k ∧ (sg14.take k).contains c = false) (fun i => 14 - (Go.RowKit.intOf i).toNat)
  case atStart => exact ⟨0, by omega, rfl, rfl⟩
  case round =>
    obtain ⟨k, hk, rfl, ha⟩ := hrel
    have HA := hide ha
    have HG := hide hG
    clear ha hG
    by_cases hlt : k < 14
    · have hlt' : (k : Int) < 14 := by omega
      have hsz : k < (ByteArray.mk #[33, 35, 36, 37, 38, 39, 42, 43, 45, 46, 94, 95, 124, 126]).size := hlt
      have hC : (ByteArray.mk #[33, 35, 36, 37, 38, 39, 42, 43, 45, 46, 94, 95, 124, 126])[k]'hsz = sg14[k]'hlt := rfl
      have HX := hide (unhide HW k hlt (unhide HA))
      have HY := hide (unhide HQ (sg14[k]'hlt))
      generalize sg14[k]'hlt = x at *
      clear HA HW HQ
      by_cases e : x = c
      · have hR := hide ((unhide HX).1 e)
        have heq := (unhide HY).2 e
        go_wp2
        go_ret
        exact ⟨ret_bool (unhide hR).symm, rfl⟩
      · have hR := hide ((unhide HX).2 e)
        have hne : ¬ (x.toNat : Int) = (c.toNat : Int) := fun q => e ((unhide HY).1 q)
        go_wp2
        refine ⟨⟨k + 1, by omega, by go_num, unhide hR⟩, ?_⟩
        simp [Go.RowKit.intOf]; omega
    · have hlt' : decide ((k : Int) < 14) = false := by simp; omega
      obtain rfl : k = 14 := by omega
      have hR := hide (show G = false by rw [← unhide HG, ← unhide HA, unhide HF])
      clear HA HW HQ
      go_wp2
      go_ret
      exact ⟨ret_bool (unhide hR).symm, rfl⟩
set_option maxHeartbeats 8000000 in
set_option maxRecDepth 8000 in
theorem tokC (c : UInt8) (w : World) (h : 90 < c.toNat ∧ c.toNat < 96) :
    Calls Tryz.prog 101 #[.int .u8 (c.toNat : Int)] w fun e w' => e = .returned (.bool (sg14.contains c)) ∧ w' = w := by
  have HW := hide (signs_walk c)
  have HQ := hide (fun a : UInt8 => u8_eq a c)
  have HF : Hid (sg14.take 14 = sg14) := hide rfl
  have a0 : ¬ (97 : Int) ≤ (c.toNat : Int) := by omega
  have a1 : (65 : Int) ≤ (c.toNat : Int) := by omega
  have a2 : ¬ (c.toNat : Int) ≤ 90 := by omega
  have a3 : (48 : Int) ≤ (c.toNat : Int) := by omega
  have a4 : ¬ (c.toNat : Int) ≤ 57 := by omega
  have a5 : ¬ (c.toNat : Int) = 96 := by omega
  clear h
  generalize hG : sg14.contains c = G at *
  go_enter Tryz.func101, Tryz.ntmps101
  go_wp2
  go_loop [4] (fun i => ∃ k : Nat, k ≤ 14 ∧ i = .int .i64 k ∧ (sg14.take k).contains c = false) (fun i => 14 - (Go.RowKit.intOf i).toNat)
  case atStart => exact ⟨0, by omega, rfl, rfl⟩
  case round =>
    obtain ⟨k, hk, rfl, ha⟩ := hrel
    have HA := hide ha
    have HG := hide hG
    clear ha hG
    by_cases hlt : k < 14
    · have hlt' : (k : Int) < 14 := by omega
      have hsz : k < (ByteArray.mk #[33, 35, 36, 37, 38, 39, 42, 43, 45, 46, 94, 95, 124, 126]).size := hlt
      have hC : (ByteArray.mk #[33, 35, 36, 37, 38, 39, 42, 43, 45, 46, 94, 95, 124, 126])[k]'hsz = sg14[k]'hlt := rfl
      have HX := hide (unhide HW k hlt (unhide HA))
      have HY := hide (unhide HQ (sg14[k]'hlt))
      generalize sg14[k]'hlt = x at *
      clear HA HW HQ
      by_cases e : x = c
      · have hR := hide ((unhide HX).1 e)
        have heq := (unhide HY).2 e
        go_wp2
        go_ret
        exact ⟨ret_bool (unhide hR).symm, rfl⟩
      · have hR := hide ((unhide HX).2 e)
        have hne : ¬ (x.toNat : Int) = (c.toNat : Int) := fun q => e ((unhide HY).1 q)
        go_wp2
        refine ⟨⟨k + 1, by omega, by go_num, unhide hR⟩, ?_⟩
        simp [Go.RowKit.intOf]; omega
    · have hlt' : decide ((k : Int) < 14) = false := by simp; omega
      obtain rfl : k = 14 := by omega
      have hR := hide (show G = false by rw [← unhide HG, ← unhide HA, unhide HF])
      clear HA HW HQ
      go_wp2
      go_ret
      exact ⟨ret_bool (unhide hR).symm, rfl⟩
set_option maxHeartbeats 8000000 in
set_option maxRecDepth 8000 in
theorem tokD (c : UInt8) (w : World) (h : 122 < c.toNat) :
    Calls Tryz.prog 101 #[.int .u8 (c.toNat : Int)] w fun e w' => e = .returned (.bool (sg14.contains c)) ∧ w' = w := by
  have HW := hide (signs_walk c)
  have HQ := hide (fun a : UInt8 => u8_eq a c)
  have HF : Hid (sg14.take 14 = sg14) := hide rfl
  have a0 : (97 : Int) ≤ (c.toNat : Int) := by omega
  have a1 : ¬ (c.toNat : Int) ≤ 122 := by omega
  have a2 : (65 : Int) ≤ (c.toNat : Int) := by omega
  have a3 : ¬ (c.toNat : Int) ≤ 90 := by omega
  have a4 : (48 : Int) ≤ (c.toNat : Int) := by omega
  have a5 : ¬ (c.toNat : Int) ≤ 57 := by omega
  have a6 : ¬ (c.toNat : Int) = 96 := by omega
  clear h
  generalize hG : sg14.contains c = G at *
  go_enter Tryz.func101, Tryz.ntmps101
  go_wp2
  go_loop [4] (fun i => ∃ k : Nat, k ≤ 14 ∧ i = .int .i64 k ∧ (sg14.take k).contains c = false) (fun i => 14 - (Go.RowKit.intOf i).toNat)
  case atStart => exact ⟨0, by omega, rfl, rfl⟩
  case round =>
    obtain ⟨k, hk, rfl, ha⟩ := hrel
    have HA := hide ha
    have HG := hide hG
    clear ha hG
    by_cases hlt : k < 14
    · have hlt' : (k : Int) < 14 := by omega
      have hsz : k < (ByteArray.mk #[33, 35, 36, 37, 38, 39, 42, 43, 45, 46, 94, 95, 124, 126]).size := hlt
      have hC : (ByteArray.mk #[33, 35, 36, 37, 38, 39, 42, 43, 45, 46, 94, 95, 124, 126])[k]'hsz = sg14[k]'hlt := rfl
      have HX := hide (unhide HW k hlt (unhide HA))
      have HY := hide (unhide HQ (sg14[k]'hlt))
      generalize sg14[k]'hlt = x at *
      clear HA HW HQ
      by_cases e : x = c
      · have hR := hide ((unhide HX).1 e)
        have heq := (unhide HY).2 e
        go_wp2
        go_ret
        exact ⟨ret_bool (unhide hR).symm, rfl⟩
      · have hR := hide ((unhide HX).2 e)
        have hne : ¬ (x.toNat : Int) = (c.toNat : Int) := fun q => e ((unhide HY).1 q)
        go_wp2
        refine ⟨⟨k + 1, by omega, by go_num, unhide hR⟩, ?_⟩
        simp [Go.RowKit.intOf]; omega
    · have hlt' : decide ((k : Int) < 14) = false := by simp; omega
      obtain rfl : k = 14 := by omega
      have hR := hide (show G = false by rw [← unhide HG, ← unhide HA, unhide HF])
      clear HA HW HQ
      go_wp2
      go_ret
      exact ⟨ret_bool (unhide hR).symm, rfl⟩
set_option maxHeartbeats 8000000 in
set_option maxRecDepth 8000 in
theorem token_any (c : UInt8) (w : World) : Calls Tryz.prog 101 #[.int .u8 (c.toNat : Int)] w fun e w' => e = .returned (.bool (nby c)) ∧ w' = w := by
  rw [nby_iff c]
  by_cases h1 : 97 ≤ c.toNat ∧ c.toNat ≤ 122
  · rw [decide_eq_true h1]
    have a1 : (97 : Int) ≤ (c.toNat : Int) := by omega
    have a2 : (c.toNat : Int) ≤ 122 := by omega
    go_enter Tryz.func101, Tryz.ntmps101
    go_wp2
    go_ret
    exact ⟨rfl, rfl⟩
  by_cases h2 : 65 ≤ c.toNat ∧ c.toNat ≤ 90
  · rw [decide_eq_true h2]
    have a1 : ¬ (97 : Int) ≤ (c.toNat : Int) := by omega
    have a2 : (65 : Int) ≤ (c.toNat : Int) := by omega
    have a3 : (c.toNat : Int) ≤ 90 := by omega
    go_enter Tryz.func101, Tryz.ntmps101
    go_wp2
    go_ret
    exact ⟨ret_bool (by simp), rfl⟩
  by_cases h3 : 48 ≤ c.toNat ∧ c.toNat ≤ 57
  · rw [decide_eq_true h3]
    have a1 : ¬ (97 : Int) ≤ (c.toNat : Int) := by omega
    have a2 : ¬ (65 : Int) ≤ (c.toNat : Int) := by omega
    have a3 : (48 : Int) ≤ (c.toNat : Int) := by omega
    have a4 : (c.toNat : Int) ≤ 57 := by omega
    go_enter Tryz.func101, Tryz.ntmps101
    go_wp2
    go_ret
    exact ⟨ret_bool (by simp), rfl⟩
  by_cases h4 : c.toNat = 96
  · rw [decide_eq_true h4]
    have a1 : ¬ (97 : Int) ≤ (c.toNat : Int) := by omega
    have a2 : (65 : Int) ≤ (c.toNat : Int) := by omega
    have a3 : ¬ (c.toNat : Int) ≤ 90 := by omega
    have a4 : (48 : Int) ≤ (c.toNat : Int) := by omega
    have a5 : ¬ (c.toNat : Int) ≤ 57 := by omega
    have a6 : (c.toNat : Int) = 96 := by omega
    go_enter Tryz.func101, Tryz.ntmps101
    go_wp2
    go_ret
    exact ⟨ret_bool (by simp), rfl⟩
  rw [decide_eq_false h1, decide_eq_false h2, decide_eq_false h3, decide_eq_false h4, Bool.or_false, Bool.or_false, Bool.or_false, Bool.false_or]
  rcases (show c.toNat < 48 ∨ (57 < c.toNat ∧ c.toNat < 65) ∨ (90 < c.toNat ∧ c.toNat < 96) ∨ 122 < c.toNat by omega) with h | h | h | h
  · exact tokA c w h
  · exact tokB c w h
  · exact tokC c w h
  · exact tokD c w h
set_option maxHeartbeats 8000000 in
set_option maxRecDepth 8000 in
theorem rName_any (s : Bs) (w : World) (hs : s.length ≤ 9223372036854775806) : Calls Tryz.prog 81 #[S s] w fun e w' => e = .returned (.bool (hnm s)) ∧ w' = w := by
  have HM : Hid (hnm s = (decide (1 ≤ s.length ∧ s.length ≤ 40) && s.all nby)) := hide rfl
  generalize hnm s = M at *
  go_enter Tryz.func81, Tryz.ntmps81
  go_wp2
  go_loop [3] (fun i => ∃ k : Nat, k ≤ s.length ∧ i = .int .i64 k ∧ (s.take k).all nby = true) (fun i => s.length - (Go.RowKit.intOf i).toNat)
  case atStart => exact ⟨0, by omega, rfl, by simp⟩
  case round =>
    obtain ⟨k, hk, rfl, ha⟩ := hrel
    by_cases hlt : k < s.length
    · have hsz : k < (ByteArray.mk s.toArray).size := by simpa [ByteArray.size] using hlt
      have hC : (ByteArray.mk s.toArray)[k]'hsz = s[k] := rfl
      have hA := hide ha
      have hT := hide (take_snoc s k hlt)
      have hE := hide (all_no nby s k hlt)
      have hklt : (k : Int) < (s.length : Int) := by omega
      clear ha
      generalize s[k] = c at *
      have HK := hide (fun W => token_any c W)
      go_wp2_with fail
      refine (unhide HK _).mono ?_
      rintro e w1 ⟨rfl, hw⟩
      rw [hw]
      clear hw HK w1
      cases hn : nby c
      · have hR := hide (unhide hE hn)
        clear hn hE hT hA
        go_wp2
        go_ret
        exact ⟨ret_bool (by rw [unhide HM, unhide hR, Bool.and_false]), rfl⟩
      · have hR := hide (show (s.take (k + 1)).all nby = true by rw [unhide hT]; simp [unhide hA, hn])
        clear hn hE hT hA
        go_wp2
        refine ⟨⟨k + 1, by omega, by go_num, unhide hR⟩, ?_⟩
        simp [Go.RowKit.intOf]; omega
    · have hR := hide (show s.all nby = true by rw [List.take_of_length_le (by omega)] at ha; exact ha)
      have hd : decide ((k : Int) < (s.length : Int)) = false := by simp; omega
      clear ha
      by_cases h1 : 1 ≤ s.length
      · have h1' : (1 : Int) ≤ (s.length : Int) := by omega
        go_wp2
        go_ret
        exact ⟨ret_bool (by rw [unhide HM, unhide hR, Bool.and_true]; exact decide_eq_decide.2 (by omega)), rfl⟩
      · have h1' : decide ((1 : Int) ≤ (s.length : Int)) = false := by simp; omega
        go_wp2
        go_ret
        exact ⟨ret_bool (by rw [unhide HM, unhide hR, Bool.and_true, decide_eq_false (by omega)]), rfl⟩
end Go.Proofs.YthlacailhfhjnaaGreatDoor
namespace Go.Proofs.YthlacailhfhjnaaGreatDoor
open Go.RowKit Go.Lib
theorem alk_cl (l : Bs) : alk l CL = (l.map low == [99, 111, 110, 116, 101, 110, 116, 45, 108, 101, 110, 103, 116, 104]) := rfl
theorem alk_te (l : Bs) : alk l TE = (l.map low == [116, 114, 97, 110, 115, 102, 101, 114, 45, 101, 110, 99, 111, 100, 105, 110, 103]) := rfl
def strlen : Value → Nat
  | .string s => s.size
  | _ => 0
end Go.Proofs.YthlacailhfhjnaaGreatDoor
namespace Go.Proofs.YthlacailhfhjnaaGreatDoor
open Go.RowKit Go.Lib
set_option maxHeartbeats 8000000 in
set_option maxRecDepth 8000 in
theorem small_wide (s : Bs) (w : World) (hs : s.length ≤ 140737488351232) : Calls Tryz.prog 45 #[S s] w fun e w' => e = .returned (S (s.map low)) ∧ Below w.heap.size w w' := by
  go_enter Tryz.func45, Tryz.ntmps45
  go_wp2_with (refine wpList_bytesF rfl (.tmp 5) rfl s (by rfl) ?_; intro w1 cap1 hb1 hf1 hbe1)
  have H0 := hide (show Smb w.heap.size s 0 w w1 from ⟨fun j hj => by rw [sml_at s 0 j hj, if_neg (by omega)]; have := hb1.cell j hj; rwa [Nat.zero_add] at this, hf1, hb1.lt, hbe1⟩)
  have hcap := hb1.cap
  clear hb1 hf1 hbe1
  go_loopw [4] (fun i wr => ∃ k : Nat, k ≤ s.length ∧ i = .int .i64 k ∧ Smb w.heap.size s k w wr) (fun i _ => s.length - (Go.RowKit.intOf i).toNat)
  case atStart => exact ⟨0, by omega, rfl, unhide H0⟩
  case round =>
    obtain ⟨k, hk, rfl, hi⟩ := hrel
    clear H0
    by_cases hlt : k < s.length
    · have hc := hi.cell k hlt
      rw [sml_at s k k hlt, if_neg (by omega)] at hc
      have hf := hi.fz k hlt
      have hl := hi.lt
      have hki : (k : Int) < (s.length : Int) := by omega
      by_cases hu : up (s.getD k 0) = true
      · have hu2 : 65 ≤ (s.getD k 0).toNat ∧ (s.getD k 0).toNat ≤ 90 := by unfold up at hu; simpa using hu
        have hlow : (low (s.getD k 0)).toNat = (s.getD k 0).toNat + 32 := by
          unfold low
          rw [if_pos hu, UInt8.toNat_add]
          show ((s.getD k 0).toNat + 32) % 256 = _
          omega
        have HS := hide (hi.set hlt (Nat.le_refl _))
        rw [hlow] at HS
        generalize (s.getD k 0).toNat = n at *
        have i1 : (65 : Int) ≤ (n : Int) := by omega
        have i2 : (n : Int) ≤ 90 := by omega
        have i3 : (n : Int) + 32 ≤ 255 := by omega
        clear hi hu hlow
        go_wp2
        refine ⟨⟨k + 1, by omega, by go_num, ?_⟩, ?_⟩
        · have := unhide HS
          simpa using this
        · simp [Go.RowKit.intOf]; omega
      · have hu' : up (s.getD k 0) = false := by simpa using hu
        have HS := hide (hi.same hlt hu')
        have hu2 : ¬ (65 ≤ (s.getD k 0).toNat ∧ (s.getD k 0).toNat ≤ 90) := by unfold up at hu'; simpa using hu'
        generalize (s.getD k 0).toNat = n at *
        clear hi hu hu'
        by_cases h1 : 65 ≤ n
        · have i1 : (65 : Int) ≤ (n : Int) := by omega
          have i2 : ¬ (n : Int) ≤ 90 := by omega
          have i3 : decide ((n : Int) ≤ 90) = false := by simpa using i2
          go_wp2
          refine ⟨⟨k + 1, by omega, by go_num, unhide HS⟩, ?_⟩
          simp [Go.RowKit.intOf]; omega
        · have i1 : ¬ (65 : Int) ≤ (n : Int) := by omega
          have i3 : decide ((65 : Int) ≤ (n : Int)) = false := by simpa using i1
          go_wp2
          refine ⟨⟨k + 1, by omega, by go_num, unhide HS⟩, ?_⟩
          simp [Go.RowKit.intOf]; omega
    · have hd : decide (k < s.length) = false := by simp; omega
      have hke : k = s.length := by omega
      have HT : Hid ((convert 102 9 (.slice (some ⟨w.heap.size, 0, none⟩) s.length cap1)).run Tryz.prog wr = .ok (S (s.map low)) wr) := hide (by
        refine run_text wr w.heap.size 0 s.length cap1 (s.map low) (by simp) ?_
        intro j hj
        rw [Nat.zero_add, hi.cell j hj, sml_at s k j hj, if_pos (by omega)]
        simp [hj])
      have HB := hide hi.bel
      clear hi hke
      go_wp2_with (first | (refine wpList_conv rfl 102 9 (.tmp 33) rfl _ _ (by rfl) (unhide HT) ?_))
      go_ret
      exact ⟨rfl, unhide HB⟩
end Go.Proofs.YthlacailhfhjnaaGreatDoor
namespace Go.Proofs.YthlacailhfhjnaaGreatDoor
open Go.RowKit Go.Lib
theorem addv_bd2 {n m : Int} (h0 : 0 ≤ n) (h1 : 0 ≤ m) : 0 ≤ addv n m ∧ addv n m ≤ 2147483648 := by
  unfold addv
  split <;> omega
set_option maxHeartbeats 2000000 in
theorem add2_any (n m : Int) (w : World) (h0 : 0 ≤ n) (h1 : 0 ≤ m) (h2 : n ≤ 9000000000000000000) (h3 : m ≤ 9000000000000000000) : Calls Tryz.prog 8 #[.int .i64 n, .int .i64 m] w fun e w' => e = .returned (.int .i64 (addv n m)) ∧ w' = w := by
  unfold addv
  by_cases h : 2147483647 - n < m
  · rw [if_pos h]
    go_enter Tryz.func8, Tryz.ntmps8
    go_wp2
    go_ret
    exact ⟨rfl, rfl⟩
  · rw [if_neg h]
    go_enter Tryz.func8, Tryz.ntmps8
    go_wp2
    go_ret
    exact ⟨rfl, rfl⟩
end Go.Proofs.YthlacailhfhjnaaGreatDoor
