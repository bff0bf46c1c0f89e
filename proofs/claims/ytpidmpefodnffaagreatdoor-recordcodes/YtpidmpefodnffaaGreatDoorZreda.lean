import Derived.Test.YtpidmpefodnffaaGreatDoorWrtb
namespace Go.Proofs.YtpidmpefodnffaaGreatDoor
open Go.RowKit Go.Lib
/-- Bytes that lie in memory from a place on. -/
structure Bys (g off cap : Nat) (R : List UInt8) (w : World) : Prop where
  cell : ∀ j, j < R.length → w.cell? ⟨g, off + j, none⟩ = some (.int .u8 ((R.getD j 0).toNat : Int))
  cap : R.length ≤ cap
  lt : g < w.heap.size
theorem Bys.keep {g off cap : Nat} {R : List UInt8} {w w' : World} {P : Nat → Prop} (h : Bys g off cap R w) (ho : Only P w w') (hg : ¬ P g) : Bys g off cap R w' :=
  ⟨fun j hj => (World.cell?_of_block (ho.block g h.lt hg)).trans (h.cell j hj), h.cap, Nat.lt_of_lt_of_le h.lt ho.size⟩
theorem Bys.text {g off cap : Nat} {R : List UInt8} {w : World} (h : Bys g off cap R w) (n : Nat) (hn : n ≤ R.length) (c : Nat) : (convert 105 9 (.slice (some ⟨g, off, none⟩) n c)).run Tryz.prog w = .ok (.string ⟨(R.take n).toArray⟩) w :=
  run_text w g off n c (R.take n) (by rw [List.length_take]; omega) (fun j hj => by
    rw [h.cell j (by omega)]
    simp [show j < n from hj])
/-- A Reader: what is left, what was wrong. -/
structure RAt (b g off cap : Nat) (R : List UInt8) (E : Nat) (w : World) : Prop where
  row : w.heap[b]? = some (.cells #[.slice (some ⟨g, off, none⟩) R.length cap, errV E] 227 (0, 0))
  bys : Bys g off cap R w
  ne : g ≠ b
theorem RAt.keep {b g off cap : Nat} {R : List UInt8} {E : Nat} {w w' : World} {P : Nat → Prop} (h : RAt b g off cap R E w) (ho : Only P w w') (hb : ¬ P b) (hg : ¬ P g) : RAt b g off cap R E w' :=
  ⟨(ho.block b (lt_of_row h.row) hb).trans h.row, h.bys.keep ho hg, h.ne⟩
theorem RAt.c0 {b g off cap : Nat} {R : List UInt8} {E : Nat} {w : World} (h : RAt b g off cap R E w) : w.cell? ⟨b, 0, none⟩ = some (.slice (some ⟨g, off, none⟩) R.length cap) := by
  rw [cell_of_row w b 0 _ 227 (0, 0) h.row]; rfl
theorem RAt.c1 {b g off cap : Nat} {R : List UInt8} {E : Nat} {w : World} (h : RAt b g off cap R E w) : w.cell? ⟨b, 1, none⟩ = some (errV E) := by
  rw [cell_of_row w b 1 _ 227 (0, 0) h.row]; rfl
theorem RAt.fz {b g off cap : Nat} {R : List UInt8} {E : Nat} {w : World} (h : RAt b g off cap R E w) (j : Nat) : w.frozen? ⟨b, j, none⟩ = false := frozen_of_row w b j _ 227 h.row
theorem RAt.set1 {b g off cap : Nat} {R : List UInt8} {E E' : Nat} {w : World} (h : RAt b g off cap R E w) : RAt b g off cap R E' (w.setCell ⟨b, 1, none⟩ (errV E')) := by
  have hr := heap_setCell_same w b 1 _ 227 (errV E') h.row
  refine ⟨by simpa using hr, h.bys.keep (Only.setCell w ⟨b, 1, none⟩ _) h.ne, h.ne⟩
theorem RAt.set0 {b g off cap off' cap' : Nat} {R R' : List UInt8} {E : Nat} {w : World} (h : RAt b g off cap R E w) (hb : Bys g off' cap' R' w) : RAt b g off' cap' R' E (w.setCell ⟨b, 0, none⟩ (.slice (some ⟨g, off', none⟩) R'.length cap')) := by
  have hr := heap_setCell_same w b 0 _ 227 (.slice (some ⟨g, off', none⟩) R'.length cap') h.row
  refine ⟨by simpa using hr, hb.keep (Only.setCell w ⟨b, 0, none⟩ _) h.ne, h.ne⟩
/-- What a Reader becomes. -/
def RTo (b g : Nat) (R' : List UInt8) (E' : Nat) (w w' : World) : Prop := (∃ off cap, RAt b g off cap R' E' w') ∧ Only (fun k => k = b) w w'
theorem RTo.same {b g off cap : Nat} {R : List UInt8} {E : Nat} {w : World} (h : RAt b g off cap R E w) : RTo b g R E w w := ⟨⟨off, cap, h⟩, Only.refl _ _⟩
theorem RTo.err {b g off cap : Nat} {R : List UInt8} {E E' : Nat} {w : World} (h : RAt b g off cap R E w) : RTo b g R E' w (w.setCell ⟨b, 1, none⟩ (errV E')) := ⟨⟨off, cap, h.set1⟩, Only.setCell w ⟨b, 1, none⟩ (errV E')⟩
theorem RTo.step {b g : Nat} {R2 : List UInt8} {E2 : Nat} {w w1 w2 : World} (h1 : Only (fun k => k = b) w w1) (h2 : RTo b g R2 E2 w1 w2) : RTo b g R2 E2 w w2 :=
  ⟨h2.1, h1.trans h2.2 (fun _ _ q => q)⟩
theorem take_drop_bys {g off cap : Nat} {R : List UInt8} {w : World} (h : Bys g off cap R w) (n : Nat) (hn : n ≤ R.length) : Bys g off cap (R.take n) w :=
  ⟨fun j hj => by
    rw [List.length_take] at hj
    rw [h.cell j (by omega)]
    simp [show j < n by omega], by rw [List.length_take]; have := h.cap; omega, h.lt⟩
theorem drop_bys {g off cap : Nat} {R : List UInt8} {w : World} (h : Bys g off cap R w) (n : Nat) (hn : n ≤ R.length) : Bys g (off + n) (cap - n) (R.drop n) w :=
  ⟨fun j hj => by
    rw [List.length_drop] at hj
    rw [Nat.add_assoc, h.cell (n + j) (by omega)]
    simp, by rw [List.length_drop]; have := h.cap; omega, h.lt⟩
/-- The bytes of a text in new memory. -/
theorem wpList_bytes {ops : Array Oper} {rest : List Oper} {o : Oper} {a : Act} {w : World} {Q : Exit → Act → World → Prop} (hgd : o.guard = none) (x : Operand) (ho : o.op = .convert 9 105 x)
    (s : List UInt8) (hx : a.eval x = .string ⟨s.toArray⟩)
    (h : ∀ w' cap, Bys w.heap.size 0 cap s w' → Below w.heap.size w w' → wpList Tryz.prog ops Q rest (a.put o.dst (.slice (some ⟨w.heap.size, 0, none⟩) s.length cap)) w') : wpList Tryz.prog ops Q (o :: rest) a w := by
  refine wpList_plain hgd fun K hK => ?_
  have hrun := run_bytes_of_string (P := Tryz.prog) w 9 105 5 ⟨s.toArray⟩ Tryz.underlying9 Tryz.underlying105 Tryz.underlying5
  have hsz : (ByteArray.mk s.toArray).size = s.length := by simp [ByteArray.size]
  unfold Oper.wp execOp
  simp only [ho, hx, Sem.run_bind, hrun, Result.andThen_ok]
  rw [hsz]
  refine hK _ _ (h _ _ ⟨?_, ?_, ?_⟩ ?_)
  · intro j hj
    rw [Nat.zero_add]
    have e := World.cell?_alloc_mark w.drew (bytesRow ⟨s.toArray⟩ (grownCap w s.length 0 5)) 5 ((bytesRow ⟨s.toArray⟩ (grownCap w s.length 0 5)).size, (bytesRow ⟨s.toArray⟩ (grownCap w s.length 0 5)).size + 1) j
    refine e.trans ?_
    rw [bytesRow_at _ _ _ (by simpa using hj)]
    simp [hj]
  · exact grownCap_ge w s.length 0 5
  · simp
  · exact ((Below.refl _ _).drew).alloc (Nat.le_refl _) _
set_option maxHeartbeats 1000000 in
theorem newreader_any (s : List UInt8) (w : World) :
    Calls Tryz.prog 152 #[.string ⟨s.toArray⟩] w fun e w' => ∃ b g cap, e = .returned (.pointer (some ⟨b, 0, none⟩)) ∧ w.heap.size ≤ b ∧ w.heap.size ≤ g ∧ RAt b g 0 cap s 0 w' ∧ Below w.heap.size w w' := by
  go_enter Tryz.func152, Tryz.ntmps152
  go_wp2_with (refine wpList_bytes rfl (.tmp 3) rfl s (by rfl) ?_; intro w1 cap1 hb1 hbe1)
  go_ret
  refine ⟨w1.heap.size, w.heap.size, cap1, rfl, hbe1.size, Nat.le_refl _, ⟨?_, ?_, ?_⟩, hbe1.alloc hbe1.size _⟩
  · exact heap_alloc_new _ _
  · exact hb1.keep (Only.alloc (fun _ => False) w1 _) (fun q => q)
  · have := hb1.lt; omega
set_option maxHeartbeats 1000000 in
theorem take_any (b g off cap : Nat) (R : List UInt8) (E n : Nat) (w : World) (h : RAt b g off cap R E w) (hn : n ≤ R.length) (_hR : R.length ≤ 9223372036854775807) :
    Calls Tryz.prog 158 #[.pointer (some ⟨b, 0, none⟩), .int .i64 n] w fun e w' => e = .returned (.slice (some ⟨g, off, none⟩) n cap) ∧ RTo b g (R.drop n) E w w' := by
  have c0 := h.c0
  have f0 := h.fz 0
  have hcap := h.bys.cap
  by_cases hc : cap = n
  · subst hc
    have hRn : R.length = cap := by omega
    have hnil : R.drop cap = [] := List.drop_of_length_le (by omega)
    have hb0 : Bys g off 0 (R.drop cap) w := ⟨fun j hj => by rw [hnil] at hj; simp at hj, by rw [hnil]; simp, h.bys.lt⟩
    have hto := h.set0 hb0
    rw [hnil] at hto ⊢
    have HT := hide hto
    have hRR : R.length - cap = 0 := by omega
    clear h hnil hb0 hto
    go_enter Tryz.func158, Tryz.ntmps158
    go_wp2
    go_ret
    refine ⟨rfl, ⟨off, 0, ?_⟩, Only.setCell w ⟨b, 0, none⟩ _⟩
    simpa using unhide HT
  · have hto := h.set0 (drop_bys h.bys n hn)
    rw [List.length_drop] at hto
    have HT := hide hto
    clear h hto
    go_enter Tryz.func158, Tryz.ntmps158
    go_wp2
    go_ret
    exact ⟨rfl, ⟨off + n, cap - n, unhide HT⟩, Only.setCell w ⟨b, 0, none⟩ _⟩
/-- A number that stands by bytes, the highest first. -/
def nat (l : List UInt8) : Nat := l.foldl (fun n c => n * 256 + c.toNat) 0
theorem nat_snoc (l : List UInt8) (c : UInt8) : nat (l ++ [c]) = nat l * 256 + c.toNat := by simp [nat]
theorem nat_lt (l : List UInt8) : nat l < 256 ^ l.length := by
  suffices ∀ l : List UInt8, ∀ n k : Nat, n < 256 ^ k → l.foldl (fun n c => n * 256 + c.toNat) n < 256 ^ (k + l.length) by
    have := this l 0 0 (by simp)
    simpa [nat] using this
  intro l
  induction l with
  | nil => intro n k h; simpa using h
  | cons c l ih =>
    intro n k h
    have hc := c.toNat_lt
    have := ih (n * 256 + c.toNat) (k + 1) (by rw [Nat.pow_succ]; omega)
    rw [List.foldl_cons, List.length_cons]
    rw [show k + (l.length + 1) = k + 1 + l.length by omega]
    exact this
theorem nat_take (l : List UInt8) (k : Nat) (hk : k < l.length) (hb : nat l < 9223372036854775808) : nat (l.take k) < 36028797018963968 ∧ nat (l.take (k + 1)) < 9223372036854775808 := by
  have mono : ∀ m : List UInt8, ∀ n, n * 256 ^ m.length ≤ m.foldl (fun n c => n * 256 + c.toNat) n := by
    intro m
    induction m with
    | nil => intro n; simp
    | cons c m ih =>
      intro n
      have := ih (n * 256 + c.toNat)
      rw [List.foldl_cons, List.length_cons, Nat.pow_succ]
      refine Nat.le_trans ?_ this
      rw [Nat.mul_comm (256 ^ m.length) 256, ← Nat.mul_assoc]
      exact Nat.mul_le_mul_right _ (by omega)
  have hsplit : ∀ j, nat (l.take j) * 256 ^ (l.drop j).length ≤ nat l := by
    intro j
    have := mono (l.drop j) (nat (l.take j))
    refine Nat.le_trans this ?_
    unfold nat
    rw [← List.foldl_append, List.take_append_drop]
    exact Nat.le_refl _
  constructor
  · have h1 := hsplit k
    have h2 : 256 ≤ 256 ^ (l.drop k).length := by
      rw [List.length_drop]
      calc 256 = 256 ^ 1 := rfl
        _ ≤ 256 ^ (l.length - k) := Nat.pow_le_pow_right (by omega) (by omega)
    have h3 : nat (l.take k) * 256 ≤ nat (l.take k) * 256 ^ (l.drop k).length := Nat.mul_le_mul_left _ h2
    omega
  · have h1 := hsplit (k + 1)
    have h2 : 1 ≤ 256 ^ (l.drop (k + 1)).length := Nat.one_le_pow _ _ (by omega)
    have h3 : nat (l.take (k + 1)) * 1 ≤ nat (l.take (k + 1)) * 256 ^ (l.drop (k + 1)).length := Nat.mul_le_mul_left _ h2
    omega
theorem or8n (n : Nat) (c : UInt8) (h : n < 36028797018963968) : bits .or .i64 ((n : Int) * 256) (c.toNat : Int) = ((n * 256 + c.toNat : Nat) : Int) := by
  have hc := c.toNat_lt
  exact or_add 8 n c.toNat (by omega) (by omega)
set_option maxHeartbeats 1000000 in
set_option maxRecDepth 8000 in
theorem number_any (g off cap n : Nat) (l : List UInt8) (w : World) (h : Bys g off cap l w) (hl : l.length = n) (hn : n ≤ 8) (hb : nat l < 9223372036854775808) :
    Calls Tryz.prog 162 #[.slice (some ⟨g, off, none⟩) n cap] w fun e w' => e = .returned (.int .i64 (nat l)) ∧ w' = w := by
  have hcell := h.cell
  have hc := h.cap
  have HC := hide hcell
  clear h hcell
  go_enter Tryz.func162, Tryz.ntmps162
  go_wp2
  go_loop [3, 8] (fun r i => ∃ k : Nat, k ≤ n ∧ i = .int .i64 k ∧ r = .int .i64 (nat (l.take k))) (fun _ i => n - (intOf i).toNat)
  case atStart => exact ⟨0, by omega, rfl, rfl⟩
  case round =>
    obtain ⟨k, hk, rfl, rfl⟩ := hrel
    by_cases hlt : k < n
    · have hbd := nat_take l k (by omega) hb
      have hnx := hide (show nat (l.take (k + 1)) = nat (l.take k) * 256 + (l.getD k 0).toNat by
        rw [take_snoc l k (by omega), nat_snoc]
        simp [show k < l.length by omega])
      have hcl := unhide HC k (by omega)
      generalize nat (l.take k) = N at *
      generalize l.getD k 0 = c at *
      have hor := or8n N c hbd.1
      have hcl2 := c.toNat_lt
      have hwc := wrap_c c
      obtain ⟨M, hM⟩ : ∃ M, N * 256 + c.toNat = M := ⟨_, rfl⟩
      rw [hM] at hor
      have HM : Hid (nat (l.take (k + 1)) = M) := hide (by rw [unhide hnx, hM])
      have hN := hbd.1
      clear hbd hnx hM hcl2
      go_wp2
      go_round
      case rel => exact ⟨k + 1, by omega, by go_num, by rw [unhide HM]⟩
      case measure => simp [intOf]; omega
    · have hkl : l.take k = l := List.take_of_length_le (by omega)
      rw [hkl]
      have hd : decide (k < n) = false := by simp; omega
      go_wp2
      go_ret
      exact ⟨rfl, rfl⟩
end Go.Proofs.YtpidmpefodnffaaGreatDoor
namespace Go.Proofs.YtpidmpefodnffaaGreatDoor
open Go.RowKit Go.Lib
/-- What is wrong with Num of a Reader, with Text, with Raw. -/
def rNumE (size : Int) (R : List UInt8) : Nat := if 1 ≤ size ∧ size ≤ 8 then (if (R.length : Int) < size then 22 else if size = 8 ∧ 128 ≤ (R.getD 0 0).toNat then 20 else 0) else 1
def rTextE (most : Int) (R : List UInt8) : Nat := if 0 ≤ most ∧ most ≤ 65535 then (if R.length < ahd most then 22 else if most < (nat (R.take (ahd most)) : Int) then 21 else if R.length - ahd most < nat (R.take (ahd most)) then 22 else 0) else 1
def rRawE (n : Int) (R : List UInt8) : Nat := if n < 0 then 1 else if (R.length : Int) < n then 22 else 0
/-- A Reader behind a call that takes k bytes. -/
def rGo (R : List UInt8) (E e k : Nat) : List UInt8 × Nat := if E ≠ 0 then (R, E) else if e ≠ 0 then (R, e) else (R.drop k, 0)
theorem rGo_old {R : List UInt8} {E e k : Nat} (h : E ≠ 0) : rGo R E e k = (R, E) := by simp [rGo, h]
theorem rGo_bad {R : List UInt8} {e k : Nat} (h : e ≠ 0) : rGo R 0 e k = (R, e) := by simp [rGo, h]
theorem rGo_ok {R : List UInt8} {k : Nat} : rGo R 0 0 k = (R.drop k, 0) := by simp [rGo]
/-- Is nothing wrong? -/
def fine (E e : Nat) : Bool := E == 0 && e == 0
theorem fine_old {E e : Nat} (h : E ≠ 0) : fine E e = false := by simp [fine, h]
theorem fine_bad {e : Nat} (h : e ≠ 0) : fine 0 e = false := by simp [fine, h]
theorem fine_ok : fine 0 0 = true := rfl
set_option maxHeartbeats 1000000 in
set_option maxRecDepth 8000 in
theorem rraw_any (b g off cap : Nat) (R : List UInt8) (E : Nat) (n : Int) (w : World) (h : RAt b g off cap R E w) (hR : R.length ≤ 9223372036854775807) :
    Calls Tryz.prog 133 #[.pointer (some ⟨b, 0, none⟩), .int .i64 n] w fun e w' => e = .returned (.string ⟨(if fine E (rRawE n R) then R.take n.toNat else []).toArray⟩) ∧ RTo b g (rGo R E (rRawE n R) n.toNat).1 (rGo R E (rRawE n R) n.toNat).2 w w' := by
  have c0 := h.c0
  have c1 := h.c1
  have f1 := h.fz 1
  by_cases hE : E = 0
  · subst hE
    rw [errV_0] at c1
    by_cases hn : n < 0
    · have he : rRawE n R = 1 := by simp [rRawE, hn]
      rw [he, rGo_bad (by decide), fine_bad (by decide)]
      have H := hide h
      clear h he
      go_enter Tryz.func133, Tryz.ntmps133
      go_wp2
      go_ret
      exact ⟨rfl, RTo.err (E' := 1) (unhide H)⟩
    · obtain ⟨k, hk⟩ : ∃ k : Nat, n = (k : Int) := ⟨n.toNat, by omega⟩
      subst hk
      by_cases hl : R.length < k
      · have he : rRawE k R = 22 := by unfold rRawE; rw [if_neg (by omega), if_pos (by omega)]
        rw [he, rGo_bad (by decide), fine_bad (by decide)]
        have H := hide h
        clear h he
        go_enter Tryz.func133, Tryz.ntmps133
        go_wp2
        go_ret
        exact ⟨rfl, RTo.err (E' := 22) (unhide H)⟩
      · have he : rRawE k R = 0 := by unfold rRawE; rw [if_neg (by omega), if_neg (by omega)]
        rw [he, rGo_ok, fine_ok]
        have H := hide h
        have hlk : k ≤ R.length := by omega
        clear h he hl
        go_enter Tryz.func133, Tryz.ntmps133
        go_wp2_with fail
        refine (take_any b g off cap R 0 k w (unhide H) hlk hR).mono ?_
        rintro e w1 ⟨rfl, hto⟩
        have hx := ((unhide H).bys.keep hto.2 (unhide H).ne).text k hlk cap
        have HX := hide hx
        clear hx
        go_wp2_with (refine wpList_conv rfl 105 9 (.tmp 7) rfl _ _ (by rfl) (unhide HX) ?_)
        go_ret
        exact ⟨rfl, hto⟩
  · rw [rGo_old hE, fine_old hE]
    rw [errV_ne hE] at c1
    have H := hide h
    clear h
    go_enter Tryz.func133, Tryz.ntmps133
    go_wp2
    go_ret
    exact ⟨rfl, RTo.same (unhide H)⟩
theorem getD_take (R : List UInt8) (k : Nat) (hk : 0 < k) : (R.take k).getD 0 0 = R.getD 0 0 := by
  cases R with
  | nil => simp
  | cons c R => cases k with
    | zero => omega
    | succ k => simp
theorem nat_first (l : List UInt8) (h : l.length = 8) : nat l < 9223372036854775808 ↔ (l.getD 0 0).toNat < 128 := by
  match l, h with
  | [a, b, c, d, e, f, g, i], _ =>
    have h1 := a.toNat_lt
    have h2 := b.toNat_lt
    have h3 := c.toNat_lt
    have h4 := d.toNat_lt
    have h5 := e.toNat_lt
    have h6 := f.toNat_lt
    have h7 := g.toNat_lt
    have h8 := i.toNat_lt
    simp only [nat, List.foldl_cons, List.foldl_nil, List.getD_cons_zero]
    omega
theorem nat_small (l : List UInt8) (k : Nat) (hk : k ≤ 7) (h : l.length = k) : nat l < 9223372036854775808 := by
  have := nat_lt l
  have h2 : 256 ^ l.length ≤ 256 ^ 7 := Nat.pow_le_pow_right (by omega) (by omega)
  have h3 : 256 ^ 7 = 72057594037927936 := by decide
  omega
set_option maxHeartbeats 1000000 in
set_option maxRecDepth 8000 in
theorem rnum_any (b g off cap : Nat) (R : List UInt8) (E : Nat) (size : Int) (w : World) (h : RAt b g off cap R E w) (hR : R.length ≤ 9223372036854775807) :
    Calls Tryz.prog 136 #[.pointer (some ⟨b, 0, none⟩), .int .i64 size] w fun e w' => e = .returned (.int .i64 (if fine E (rNumE size R) then (nat (R.take size.toNat) : Int) else 0)) ∧ RTo b g (rGo R E (rNumE size R) size.toNat).1 (rGo R E (rNumE size R) size.toNat).2 w w' := by
  have c0 := h.c0
  have c1 := h.c1
  have f1 := h.fz 1
  by_cases hE : E = 0
  · subst hE
    rw [errV_0] at c1
    by_cases hs : 1 ≤ size ∧ size ≤ 8
    · obtain ⟨k, hk⟩ : ∃ k : Nat, size = (k : Int) := ⟨size.toNat, by omega⟩
      subst hk
      have hk1 : 1 ≤ k := by omega
      have hk8 : k ≤ 8 := by omega
      have hsd : decide (1 ≤ (k : Int) ∧ (k : Int) ≤ 8) = true := by simpa using hs
      by_cases hl : R.length < k
      · have he : rNumE k R = 22 := by unfold rNumE; rw [if_pos hs, if_pos (by omega)]
        rw [he, rGo_bad (by decide), fine_bad (by decide)]
        have H := hide h
        clear h he hs
        go_enter Tryz.func136, Tryz.ntmps136
        go_wp2_with fail
        refine (sized_any (k : Int) w).mono ?_
        rintro e w' ⟨rfl, rfl⟩
        rw [hsd]
        go_wp2
        go_ret
        exact ⟨rfl, RTo.err (E' := 22) (unhide H)⟩
      · have hlk : k ≤ R.length := by omega
        by_cases h8 : k = 8
        · have hcl := h.bys.cell 0 (by omega)
          rw [Nat.add_zero] at hcl
          have hcl2 := (R.getD 0 0).toNat_lt
          by_cases h128 : 128 ≤ (R.getD 0 0).toNat
          · have he : rNumE k R = 20 := by unfold rNumE; rw [if_pos hs, if_neg (by omega), if_pos ⟨by omega, h128⟩]
            rw [he, rGo_bad (by decide), fine_bad (by decide)]
            have H := hide h
            generalize R.getD 0 0 = c at *
            subst h8
            clear h he hs hl
            go_enter Tryz.func136, Tryz.ntmps136
            go_wp2_with fail
            refine (sized_any ((8 : Nat) : Int) w).mono ?_
            rintro e w' ⟨rfl, rfl⟩
            rw [hsd]
            go_wp2
            go_ret
            exact ⟨rfl, RTo.err (E' := 20) (unhide H)⟩
          · have he : rNumE k R = 0 := by unfold rNumE; rw [if_pos hs, if_neg (by omega), if_neg (by omega)]
            have hnat : nat (R.take k) < 9223372036854775808 := by
              rw [nat_first _ (by rw [List.length_take]; omega), getD_take R k (by omega)]; omega
            rw [he, rGo_ok, fine_ok]
            have H := hide h
            generalize R.getD 0 0 = c at *
            subst h8
            clear h he hs hl
            go_enter Tryz.func136, Tryz.ntmps136
            go_wp2_with fail
            refine (sized_any ((8 : Nat) : Int) w).mono ?_
            rintro e w' ⟨rfl, rfl⟩
            rw [hsd]
            go_wp2_with fail
            refine (take_any b g off cap R 0 8 w' (unhide H) hlk hR).mono ?_
            rintro e w1 ⟨rfl, hto⟩
            have hby := take_drop_bys ((unhide H).bys.keep hto.2 (unhide H).ne) 8 hlk
            go_wp2_with fail
            refine (number_any g off cap 8 (R.take 8) w1 hby (by rw [List.length_take]; omega) (by omega) hnat).mono ?_
            rintro e w2 ⟨rfl, rfl⟩
            go_wp2
            go_ret
            exact ⟨rfl, hto⟩
        · have he : rNumE k R = 0 := by unfold rNumE; rw [if_pos hs, if_neg (by omega), if_neg (by omega)]
          have hnat : nat (R.take k) < 9223372036854775808 := nat_small _ k (by omega) (by rw [List.length_take]; omega)
          rw [he, rGo_ok, fine_ok]
          have hne : ((k : Int) == 8) = false := by simp; omega
          have H := hide h
          clear h he hs hl
          go_enter Tryz.func136, Tryz.ntmps136
          go_wp2_with fail
          refine (sized_any (k : Int) w).mono ?_
          rintro e w' ⟨rfl, rfl⟩
          rw [hsd]
          go_wp2_with fail
          refine (take_any b g off cap R 0 k w' (unhide H) hlk hR).mono ?_
          rintro e w1 ⟨rfl, hto⟩
          have hby := take_drop_bys ((unhide H).bys.keep hto.2 (unhide H).ne) k hlk
          go_wp2_with fail
          refine (number_any g off cap k (R.take k) w1 hby (by rw [List.length_take]; omega) (by omega) hnat).mono ?_
          rintro e w2 ⟨rfl, rfl⟩
          go_wp2
          go_ret
          exact ⟨rfl, hto⟩
    · have he : rNumE size R = 1 := by simp [rNumE, hs]
      have hsd : decide (1 ≤ size ∧ size ≤ 8) = false := by simpa using hs
      rw [he, rGo_bad (by decide), fine_bad (by decide)]
      have H := hide h
      clear hs he h
      go_enter Tryz.func136, Tryz.ntmps136
      go_wp2_with fail
      refine (sized_any size w).mono ?_
      rintro e w' ⟨rfl, rfl⟩
      rw [hsd]
      go_wp2
      go_ret
      exact ⟨rfl, RTo.err (E' := 1) (unhide H)⟩
  · rw [rGo_old hE, fine_old hE]
    rw [errV_ne hE] at c1
    have H := hide h
    clear h
    go_enter Tryz.func136, Tryz.ntmps136
    go_wp2
    go_ret
    exact ⟨rfl, RTo.same (unhide H)⟩
end Go.Proofs.YtpidmpefodnffaaGreatDoor
/- C8, of lists alone: what was laid down is read as it was. -/
namespace Go.Proofs.YtpidmpefodnffaaGreatDoor
theorem nat_app (a b : List UInt8) : nat (a ++ b) = nat a * 256 ^ b.length + nat b := by
  have gen : ∀ (b : List UInt8) (n : Nat), b.foldl (fun n c => n * 256 + c.toNat) n = n * 256 ^ b.length + nat b := by
    intro b
    induction b with
    | nil => intro n; simp [nat]
    | cons c b ih =>
      intro n
      have h1 := ih (n * 256 + c.toNat)
      have h2 := ih c.toNat
      have e : nat (c :: b) = b.foldl (fun n c => n * 256 + c.toNat) c.toNat := by simp [nat]
      rw [List.foldl_cons, h1, e, h2, List.length_cons, Nat.pow_succ, Nat.add_mul, Nat.mul_assoc, Nat.mul_comm 256, ← Nat.add_assoc]
  unfold nat
  rw [List.foldl_append]
  exact gen b _
theorem be_succ (size n : Nat) : be (size + 1) n = be size (n / 256) ++ [UInt8.ofNat n] := by
  unfold be
  rw [List.range_succ, List.map_append]
  congr 1
  · apply List.map_congr_left
    intro i hi
    have hi' : i < size := List.mem_range.1 hi
    congr 1
    rw [show size + 1 - 1 - i = (size - 1 - i) + 1 by omega, Nat.pow_succ, Nat.mul_comm, ← Nat.div_div_eq_div_mul]
  · simp
theorem nat_be (size n : Nat) : nat (be size n) = n % 256 ^ size := by
  induction size generalizing n with
  | zero => simp [be, nat, Nat.mod_one]
  | succ size ih =>
    rw [be_succ, nat_app, ih]
    have e : nat [UInt8.ofNat n] = n % 256 := by simp [nat]
    rw [e]
    simp only [List.length_singleton, Nat.pow_one]
    rw [Nat.pow_succ, Nat.mul_comm (256 ^ size) 256, Nat.mod_mul]
    omega
end Go.Proofs.YtpidmpefodnffaaGreatDoor
