import Derived.Test.YtpidmpefodnffaaGreatDoorWrtb
namespace Go.Proofs.YtpidmpefodnffaaGreatDoor
open Go.RowKit Go.Lib
/-- Bytes that lie in memory from a place on. -/
structure Bys (g off cap : Nat) (R : List UInt8) (w : World) : Prop where
  cell : ∀ j, j < R.length → w.cell? ⟨g, off + j, none⟩ = some (.int .u8 ((R.getD j 0).toNat : Int))
  cap : R.length ≤ cap
  lt : g < w.heap.size
theorem Bys.keep {g off cap : Nat} {R : List UInt8} {w w' : World} {P : Nat → Prop} (h : Bys g off cap R w) (ho : Only P w w') (hg : ¬ P g) : Bys g off cap R w' :=
  ⟨fun j hj => (World.cell?_of_block (ho.block g h.lt hg)).trans (h.cell j hj), h.cap, Nat.lt_of_lt_of_le h.lt ho.size⟩
theorem Bys.text {g off cap : Nat} {R : List UInt8} {w : World} (h : Bys g off cap R w) (n : Nat) (hn : n ≤ R.length) (c : Nat) : (convert 105 9 (.slice (some ⟨g, off, none⟩) n c)).run Tryz.prog w = .ok (.string ⟨(R.take n).toArray⟩) w :=
  run_text w g off n c (R.take n) (by rw [List.length_take]; omega) (fun j hj => by
    rw [h.cell j (by omega)]
    simp [show j < n from hj])
/-- A Reader: what is left, what was wrong. -/
structure RAt (b g off cap : Nat) (R : List UInt8) (E : Nat) (w : World) : Prop where
  row : w.heap[b]? = some (.cells #[.slice (some ⟨g, off, none⟩) R.length cap, errV E] 227 (0, 0))
  bys : Bys g off cap R w
  ne : g ≠ b
theorem RAt.keep {b g off cap : Nat} {R : List UInt8} {E : Nat} {w w' : World} {P : Nat → Prop} (h : RAt b g off cap R E w) (ho : Only P w w') (hb : ¬ P b) (hg : ¬ P g) : RAt b g off cap R E w' :=
  ⟨(ho.block b (lt_of_row h.row) hb).trans h.row, h.bys.keep ho hg, h.ne⟩
theorem RAt.c0 {b g off cap : Nat} {R : List UInt8} {E : Nat} {w : World} (h : RAt b g off cap R E w) : w.cell? ⟨b, 0, none⟩ = some (.slice (some ⟨g, off, none⟩) R.length cap) := by
  rw [cell_of_row w b 0 _ 227 (0, 0) h.row]; rfl
theorem RAt.c1 {b g off cap : Nat} {R : List UInt8} {E : Nat} {w : World} (h : RAt b g off cap R E w) : w.cell? ⟨b, 1, none⟩ = some (errV E) := by
  rw [cell_of_row w b 1 _ 227 (0, 0) h.row]; rfl
theorem RAt.fz {b g off cap : Nat} {R : List UInt8} {E : Nat} {w : World} (h : RAt b g off cap R E w) (j : Nat) : w.frozen? ⟨b, j, none⟩ = false := frozen_of_row w b j _ 227 h.row
theorem RAt.set1 {b g off cap : Nat} {R : List UInt8} {E E' : Nat} {w : World} (h : RAt b g off cap R E w) : RAt b g off cap R E' (w.setCell ⟨b, 1, none⟩ (errV E')) := by
  have hr := heap_setCell_same w b 1 _ 227 (errV E') h.row
  refine ⟨by simpa using hr, h.bys.keep (Only.setCell w ⟨b, 1, none⟩ _) h.ne, h.ne⟩
theorem RAt.set0 {b g off cap off' cap' : Nat} {R R' : List UInt8} {E : Nat} {w : World} (h : RAt b g off cap R E w) (hb : Bys g off' cap' R' w) : RAt b g off' cap' R' E (w.setCell ⟨b, 0, none⟩ (.slice (some ⟨g, off', none⟩) R'.length cap')) := by
  have hr := heap_setCell_same w b 0 _ 227 (.slice (some ⟨g, off', none⟩) R'.length cap') h.row
  refine ⟨by simpa using hr, hb.keep (Only.setCell w ⟨b, 0, none⟩ _) h.ne, h.ne⟩
/-- What a Reader becomes. -/
def RTo (b g : Nat) (R' : List UInt8) (E' : Nat) (w w' : World) : Prop := (∃ off cap, RAt b g off cap R' E' w') ∧ Only (fun k => k = b) w w'
theorem RTo.same {b g off cap : Nat} {R : List UInt8} {E : Nat} {w : World} (h : RAt b g off cap R E w) : RTo b g R E w w := ⟨⟨off, cap, h⟩, Only.refl _ _⟩
theorem RTo.err {b g off cap : Nat} {R : List UInt8} {E E' : Nat} {w : World} (h : RAt b g off cap R E w) : RTo b g R E' w (w.setCell ⟨b, 1, none⟩ (errV E')) := ⟨⟨off, cap, h.set1⟩, Only.setCell w ⟨b, 1, none⟩ (errV E')⟩
theorem take_drop_bys {g off cap : Nat} {R : List UInt8} {w : World} (h : Bys g off cap R w) (n : Nat) (hn : n ≤ R.length) : Bys g off cap (R.take n) w :=
  ⟨fun j hj => by
    rw [List.length_take] at hj
    rw [h.cell j (by omega)]
    simp [show j < n by omega], by rw [List.length_take]; have := h.cap; omega, h.lt⟩
theorem drop_bys {g off cap : Nat} {R : List UInt8} {w : World} (h : Bys g off cap R w) (n : Nat) (hn : n ≤ R.length) : Bys g (off + n) (cap - n) (R.drop n) w :=
  ⟨fun j hj => by
    rw [List.length_drop] at hj
    rw [Nat.add_assoc, h.cell (n + j) (by omega)]
    simp, by rw [List.length_drop]; have := h.cap; omega, h.lt⟩
/-- The bytes of a text in new memory. -/
theorem wpList_bytes {ops : Array Oper} {rest : List Oper} {o : Oper} {a : Act} {w : World} {Q : Exit → Act → World → Prop} (hgd : o.guard = none) (x : Operand) (ho : o.op = .convert 9 105 x)
    (s : List UInt8) (hx : a.eval x = .string ⟨s.toArray⟩)
    (h : ∀ w' cap, Bys w.heap.size 0 cap s w' → Below w.heap.size w w' → wpList Tryz.prog ops Q rest (a.put o.dst (.slice (some ⟨w.heap.size, 0, none⟩) s.length cap)) w') : wpList Tryz.prog ops Q (o :: rest) a w := by
  refine wpList_plain hgd fun K hK => ?_
  have hrun := run_bytes_of_string (P := Tryz.prog) w 9 105 5 ⟨s.toArray⟩ Tryz.underlying9 Tryz.underlying105 Tryz.underlying5
  have hsz : (ByteArray.mk s.toArray).size = s.length := by simp [ByteArray.size]
  unfold Oper.wp execOp
  simp only [ho, hx, Sem.run_bind, hrun, Result.andThen_ok]
  rw [hsz]
  refine hK _ _ (h _ _ ⟨?_, ?_, ?_⟩ ?_)
  · intro j hj
    rw [Nat.zero_add]
    have e := World.cell?_alloc_mark w.drew (bytesRow ⟨s.toArray⟩ (grownCap w s.length 0 5)) 5 ((bytesRow ⟨s.toArray⟩ (grownCap w s.length 0 5)).size, (bytesRow ⟨s.toArray⟩ (grownCap w s.length 0 5)).size + 1) j
    refine e.trans ?_
    rw [bytesRow_at _ _ _ (by simpa using hj)]
    simp [hj]
  · exact grownCap_ge w s.length 0 5
  · simp
  · exact ((Below.refl _ _).drew).alloc (Nat.le_refl _) _
set_option maxHeartbeats 1000000 in
theorem newreader_any (s : List UInt8) (w : World) :
    Calls Tryz.prog 152 #[.string ⟨s.toArray⟩] w fun e w' => ∃ b g cap, e = .returned (.pointer (some ⟨b, 0, none⟩)) ∧ w.heap.size ≤ b ∧ w.heap.size ≤ g ∧ RAt b g 0 cap s 0 w' ∧ Below w.heap.size w w' := by
  go_enter Tryz.func152, Tryz.ntmps152
  go_wp2_with (refine wpList_bytes rfl (.tmp 3) rfl s (by rfl) ?_; intro w1 cap1 hb1 hbe1)
  go_ret
  refine ⟨w1.heap.size, w.heap.size, cap1, rfl, hbe1.size, Nat.le_refl _, ⟨?_, ?_, ?_⟩, hbe1.alloc hbe1.size _⟩
  · exact heap_alloc_new _ _
  · exact hb1.keep (Only.alloc (fun _ => False) w1 _) (fun q => q)
  · have := hb1.lt; omega
set_option maxHeartbeats 1000000 in
theorem take_any (b g off cap : Nat) (R : List UInt8) (E n : Nat) (w : World) (h : RAt b g off cap R E w) (hn : n ≤ R.length) (_hR : R.length ≤ 9223372036854775807) :
    Calls Tryz.prog 158 #[.pointer (some ⟨b, 0, none⟩), .int .i64 n] w fun e w' => e = .returned (.slice (some ⟨g, off, none⟩) n cap) ∧ RTo b g (R.drop n) E w w' := by
  have c0 := h.c0
  have f0 := h.fz 0
  have hcap := h.bys.cap
  by_cases hc : cap = n
  · subst hc
    have hRn : R.length = cap := by omega
    have hnil : R.drop cap = [] := List.drop_of_length_le (by omega)
    have hb0 : Bys g off 0 (R.drop cap) w := ⟨fun j hj => by rw [hnil] at hj; simp at hj, by rw [hnil]; simp, h.bys.lt⟩
    have hto := h.set0 hb0
    rw [hnil] at hto ⊢
    have HT := hide hto
    have hRR : R.length - cap = 0 := by omega
    clear h hnil hb0 hto
    go_enter Tryz.func158, Tryz.ntmps158
    go_wp2
    go_ret
    refine ⟨rfl, ⟨off, 0, ?_⟩, Only.setCell w ⟨b, 0, none⟩ _⟩
    simpa using unhide HT
  · have hto := h.set0 (drop_bys h.bys n hn)
    rw [List.length_drop] at hto
    have HT := hide hto
    clear h hto
    go_enter Tryz.func158, Tryz.ntmps158
    go_wp2
    go_ret
    exact ⟨rfl, ⟨off + n, cap - n, unhide HT⟩, Only.setCell w ⟨b, 0, none⟩ _⟩
/-- A number that stands by bytes, the highest first. -/
def nat (l : List UInt8) : Nat := l.foldl (fun n c => n * 256 + c.toNat) 0
theorem nat_snoc (l : List UInt8) (c : UInt8) : nat (l ++ [c]) = nat l * 256 + c.toNat := by simp [nat]
theorem nat_lt (l : List UInt8) : nat l < 256 ^ l.length := by
  suffices ∀ l : List UInt8, ∀ n k : Nat, n < 256 ^ k → l.foldl (fun n c => n * 256 + c.toNat) n < 256 ^ (k + l.length) by
    have := this l 0 0 (by simp)
    simpa [nat] using this
  intro l
  induction l with
  | nil => intro n k h; simpa using h
  | cons c l ih =>
    intro n k h
    have hc := c.toNat_lt
    have := ih (n * 256 + c.toNat) (k + 1) (by rw [Nat.pow_succ]; omega)
    rw [List.foldl_cons, List.length_cons]
    rw [show k + (l.length + 1) = k + 1 + l.length by omega]
    exact this
theorem nat_take (l : List UInt8) (k : Nat) (hk : k < l.length) (hb : nat l < 9223372036854775808) : nat (l.take k) < 36028797018963968 ∧ nat (l.take (k + 1)) < 9223372036854775808 := by
  have mono : ∀ m : List UInt8, ∀ n, n * 256 ^ m.length ≤ m.foldl (fun n c => n * 256 + c.toNat) n := by
    intro m
    induction m with
    | nil => intro n; simp
    | cons c m ih =>
      intro n
      have := ih (n * 256 + c.toNat)
      rw [List.foldl_cons, List.length_cons, Nat.pow_succ]
      refine Nat.le_trans ?_ this
      rw [Nat.mul_comm (256 ^ m.length) 256, ← Nat.mul_assoc]
      exact Nat.mul_le_mul_right _ (by omega)
  have hsplit : ∀ j, nat (l.take j) * 256 ^ (l.drop j).length ≤ nat l := by
    intro j
    have := mono (l.drop j) (nat (l.take j))
    refine Nat.le_trans this ?_
    unfold nat
    rw [← List.foldl_append, List.take_append_drop]
    exact Nat.le_refl _
  constructor
  · have h1 := hsplit k
    have h2 : 256 ≤ 256 ^ (l.drop k).length := by
      rw [List.length_drop]
      calc 256 = 256 ^ 1 := rfl
        _ ≤ 256 ^ (l.length - k) := Nat.pow_le_pow_right (by omega) (by omega)
    have h3 : nat (l.take k) * 256 ≤ nat (l.take k) * 256 ^ (l.drop k).length := Nat.mul_le_mul_left _ h2
    omega
  · have h1 := hsplit (k + 1)
    have h2 : 1 ≤ 256 ^ (l.drop (k + 1)).length := Nat.one_le_pow _ _ (by omega)
    have h3 : nat (l.take (k + 1)) * 1 ≤ nat (l.take (k + 1)) * 256 ^ (l.drop (k + 1)).length := Nat.mul_le_mul_left _ h2
    omega
theorem or8n (n : Nat) (c : UInt8) (h : n < 36028797018963968) : bits .or .i64 ((n : Int) * 256) (c.toNat : Int) = ((n * 256 + c.toNat : Nat) : Int) := by
  have hc := c.toNat_lt
  exact or_add 8 n c.toNat (by omega) (by omega)
set_option maxHeartbeats 1000000 in
set_option maxRecDepth 8000 in
theorem number_any (g off cap n : Nat) (l : List UInt8) (w : World) (h : Bys g off cap l w) (hl : l.length = n) (hn : n ≤ 8) (hb : nat l < 9223372036854775808) :
    Calls Tryz.prog 162 #[.slice (some ⟨g, off, none⟩) n cap] w fun e w' => e = .returned (.int .i64 (nat l)) ∧ w' = w := by
  have hcell := h.cell
  have hc := h.cap
  have HC := hide hcell
  clear h hcell
  go_enter Tryz.func162, Tryz.ntmps162
  go_wp2
  go_loop [3, 8] (fun r i => ∃ k : Nat, k ≤ n ∧ i = .int .i64 k ∧ r = .int .i64 (nat (l.take k))) (fun _ i => n - (intOf i).toNat)
  case atStart => exact ⟨0, by omega, rfl, rfl⟩
  case round =>
    obtain ⟨k, hk, rfl, rfl⟩ := hrel
    by_cases hlt : k < n
    · have hbd := nat_take l k (by omega) hb
      have hnx := hide (show nat (l.take (k + 1)) = nat (l.take k) * 256 + (l.getD k 0).toNat by
        rw [take_snoc l k (by omega), nat_snoc]
        simp [show k < l.length by omega])
      have hcl := unhide HC k (by omega)
      generalize nat (l.take k) = N at *
      generalize l.getD k 0 = c at *
      have hor := or8n N c hbd.1
      have hcl2 := c.toNat_lt
      have hwc := wrap_c c
      obtain ⟨M, hM⟩ : ∃ M, N * 256 + c.toNat = M := ⟨_, rfl⟩
      rw [hM] at hor
      have HM : Hid (nat (l.take (k + 1)) = M) := hide (by rw [unhide hnx, hM])
      have hN := hbd.1
      clear hbd hnx hM hcl2
      go_wp2
      go_round
      case rel => exact ⟨k + 1, by omega, by go_num, by rw [unhide HM]⟩
      case measure => simp [intOf]; omega
    · have hkl : l.take k = l := List.take_of_length_le (by omega)
      rw [hkl]
      have hd : decide (k < n) = false := by simp; omega
      go_wp2
      go_ret
      exact ⟨rfl, rfl⟩
end Go.Proofs.YtpidmpefodnffaaGreatDoor
