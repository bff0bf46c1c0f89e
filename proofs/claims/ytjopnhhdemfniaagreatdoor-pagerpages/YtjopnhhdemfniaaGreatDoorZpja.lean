import Derived.Test.YtjopnhhdemfniaaGreatDoorPhd
import Derived.Test.YtjopnhhdemfniaaGreatDoorZhnu
import Derived.Test.YtjopnhhdemfniaaGreatDoorReda
namespace Go.Proofs.YtjopnhhdemfniaaGreatDoor
open Go.RowKit
set_option maxHeartbeats 8000000
set_option maxRecDepth 8000
theorem rsum_any (s : Bs) (w : World) (hs : s.length ≤ 1000000000000) : Calls Tryz.prog 61 #[S s] w fun e w' => e = .returned (S (be 4 (crc s).toNat)) ∧ Below w.heap.size w w' := by
  have H0 := hide (refcrc_any s w (by omega))
  have h0 := u_lo (crc s)
  have h1 := u_hi (crc s)
  have hu : u (crc s) = ((crc s).toNat : Int) := rfl
  have H1 := hide (fun W => by_any 4 (crc s).toNat W (by omega) (by omega) (by have := (crc s).toNat_lt; omega))
  rw [hu] at H0 h0 h1
  clear hu
  generalize (crc s).toNat = c at *
  go_enter Tryz.func61, Tryz.ntmps61
  go_wp2_with fail
  refine (unhide H0).mono ?_
  rintro e w1 ⟨rfl, hw⟩
  rw [hw]
  clear hw w1
  go_wp2_with fail
  refine (unhide H1 _).mono ?_
  rintro e w1 ⟨rfl, b1⟩
  have HB := hide b1
  clear b1
  go_wp2
  go_ret
  exact ⟨rfl, unhide HB⟩
theorem noughts_any (n : Nat) (w : World) (hn : n ≤ 1000000) : Calls Tryz.prog 60 #[I n] w fun e w' => e = .returned (S (List.replicate n 0)) ∧ Below w.heap.size w w' := by
  go_enter Tryz.func60, Tryz.ntmps60
  go_wp2_with (first
    | (refine make1 inf5 Tryz.underlying117 rfl (.tmp 3) (.tmp 3) rfl _ _ n (by rfl) (by rfl) rfl rfl (by omega) ?_; intro w1 hb1 k1
       have HX := hide (run_text w1 w.heap.size 0 n n (List.replicate n 0) (by simp) (fun j hj => by rw [Nat.zero_add, hb1.cell]; simp [hj]))
       have HK := hide k1
       clear hb1 k1)
    | (refine wpList_conv rfl 117 9 (.tmp 4) rfl _ _ (by rfl) (unhide HX) ?_))
  go_ret
  exact ⟨rfl, unhide HK⟩
/-- What number makes of bytes. -/
def num9 (s : Bs) (k : Nat) : Option Nat := (s.take k).foldl (fun a c => a.bind fun n => if 18014398509481984 < n then none else some (256 * n + c.toNat)) (some 0)
theorem num9_next (s : Bs) (k : Nat) (hk : k < s.length) : num9 s (k + 1) = (num9 s k).bind fun n => if 18014398509481984 < n then none else some (256 * n + (s.getD k 0).toNat) := by
  unfold num9
  rw [List.take_succ_eq_append_getElem hk, List.foldl_append]
  simp [hk]
theorem num9_bad (s : Bs) (k m : Nat) (hk : num9 s k = none) (h : k ≤ m) (hm : m ≤ s.length) : num9 s m = none := by
  induction m with
  | zero => rw [show k = 0 by omega] at hk; exact hk
  | succ m ih =>
    by_cases q : k ≤ m
    · rw [num9_next s m (by omega), ih q (by omega)]; rfl
    · rw [show m + 1 = k by omega]; exact hk
def nmb (s : Bs) : Int := match num9 s s.length with
  | some n => n
  | none => -1
theorem num9_small (s : Bs) (k n : Nat) (hk : k ≤ s.length) (h : num9 s k = some n) : n ≤ 4611686018427388159 := by
  cases k with
  | zero => simp [num9] at h; omega
  | succ k =>
    rw [num9_next s k (by omega)] at h
    cases q : num9 s k with
    | none => rw [q] at h; cases h
    | some a =>
      rw [q] at h
      simp only [Option.bind_some] at h
      split at h
      · cases h
      · cases h
        have := (s.getD k 0).toNat_lt
        omega
theorem number9_any (s : Bs) (w : World) (hs : s.length ≤ 1000000) : Calls Tryz.prog 137 #[S s] w fun e w' => e = .returned (I (nmb s)) ∧ w' = w := by
  have HE := hide (show nmb s = match num9 s s.length with | some n => (n : Int) | none => -1 from rfl)
  generalize nmb s = R at *
  go_enter Tryz.func137, Tryz.ntmps137
  go_wp2
  go_loopw [3, 4] (fun a i wr => ∃ k n : Nat, k ≤ s.length ∧ i = .int .i64 k ∧ a = .int .i64 n ∧ num9 s k = some n ∧ wr = w) (fun _ i _ => s.length - (Go.RowKit.intOf i).toNat)
  case atStart => exact ⟨0, 0, by omega, rfl, rfl, rfl, rfl⟩
  case round =>
    obtain ⟨k, n, hk, rfl, rfl, hn, rfl⟩ := hrel
    have hnb := num9_small s k n hk hn
    by_cases hlt : k < s.length
    · have hlt' : (k : Int) < (s.length : Int) := by omega
      have hnx := num9_next s k hlt
      rw [hn] at hnx
      simp only [Option.bind_some] at hnx
      by_cases hb : 18014398509481984 < n
      · rw [if_pos hb] at hnx
        have HR := hide (show R = -1 by rw [unhide HE, num9_bad s (k + 1) s.length hnx (by omega) (Nat.le_refl _)])
        have hb' : (18014398509481984 : Int) < (n : Int) := by omega
        clear hnx hn
        go_wp2
        go_ret
        exact ⟨ret_int (by rw [unhide HR]), rfl⟩
      · rw [if_neg hb] at hnx
        have HN := hide hnx
        have hb' : ¬ (18014398509481984 : Int) < (n : Int) := by omega
        have hc := (s.getD k 0).toNat_lt
        clear hnx hn
        go_wp2
        have hsz : k < (ByteArray.mk s.toArray).size := by simpa [ByteArray.size] using hlt
        have hg : (ByteArray.mk s.toArray)[k]'hsz = s.getD k 0 := by
          have : s.getD k 0 = s[k] := by simp [hlt]
          rw [this]
          rfl
        rw [hg]
        generalize s.getD k 0 = c at *
        refine ⟨⟨k + 1, 256 * n + c.toNat, by omega, by go_num, ?_, unhide HN, trivial⟩, by simp [Go.RowKit.intOf]; omega⟩
        rw [IntWalk.wrap64_in (c.toNat : Int) (by omega), IntWalk.wrap64_in _ (by omega)]
        simp
    · have hlt' : ¬ (k : Int) < (s.length : Int) := by omega
      obtain rfl : k = s.length := by omega
      have HR := hide (show R = (n : Int) by rw [unhide HE, hn])
      clear hn
      go_wp2
      go_ret
      exact ⟨ret_int (by rw [unhide HR]), rfl⟩
end Go.Proofs.YtjopnhhdemfniaaGreatDoor
namespace Go.Proofs.YtjopnhhdemfniaaGreatDoor
open Go.RowKit
set_option maxHeartbeats 8000000
set_option maxRecDepth 8000
theorem cat_ba (a b : Bs) : (⟨a.toArray⟩ : ByteArray) ++ ⟨b.toArray⟩ = ⟨(a ++ b).toArray⟩ := by
  apply ByteArray.ext
  simp [ByteArray.data_append]
end Go.Proofs.YtjopnhhdemfniaaGreatDoor
/- What the document reads of a head, of lists alone. -/
namespace Go.Proofs.YtjopnhhdemfniaaGreatDoor
theorem num9_is (s : Bs) : ∀ k, k ≤ s.length → (num9 s k = some (nat (s.take k))) ∨ (num9 s k = none ∧ 4611686018427387904 < nat (s.take k)) := by
  intro k
  induction k with
  | zero => intro _; left; simp [num9, nat]
  | succ k ih =>
    intro hk
    have e : nat (s.take (k + 1)) = nat (s.take k) * 256 + (s.getD k 0).toNat := by
      rw [List.take_succ_eq_append_getElem (by omega), nat_app]
      have : (s.getD k 0) = s[k] := by simp [show k < s.length by omega]
      rw [this]
      simp [nat]
    rw [num9_next s k (by omega)]
    rcases ih (by omega) with q | ⟨q, q2⟩
    · rw [q]
      simp only [Option.bind_some]
      by_cases h : 18014398509481984 < nat (s.take k)
      · right
        rw [if_pos h]
        exact ⟨rfl, by rw [e]; omega⟩
      · left
        rw [if_neg h, e]
        exact congrArg some (by omega)
    · right
      rw [q]
      exact ⟨rfl, by rw [e]; omega⟩
theorem nmb_is (s : Bs) : nmb s = (nat s : Int) ∨ (nmb s = -1 ∧ 4611686018427387904 < nat s) := by
  have := num9_is s s.length (Nat.le_refl _)
  rw [List.take_length] at this
  unfold nmb
  rcases this with q | ⟨q, q2⟩
  · left; rw [q]
  · right; rw [q]; exact ⟨rfl, q2⟩
end Go.Proofs.YtjopnhhdemfniaaGreatDoor
namespace Go.Proofs.YtjopnhhdemfniaaGreatDoor
open Go.RowKit
def addv (n m : Int) : Int := if 2147483647 - n < m then 2147483648 else n + m
theorem addv_le {n m : Int} (h : addv n m ≤ 2147483647) : n + m ≤ 2147483647 := by
  unfold addv at h
  split at h <;> omega
def pkv (c : Int) (n : Nat) : Nat := ((if c < 0 then -(c + 1) else c) % n).toNat
theorem pkv_lt (c : Int) (n : Nat) (h : 0 < n) : pkv c n < n := by
  unfold pkv
  have h1 := Int.emod_lt_of_pos (if c < 0 then -(c + 1) else c) (show (0 : Int) < n by omega)
  have h2 := Int.emod_nonneg (if c < 0 then -(c + 1) else c) (show (n : Int) ≠ 0 by omega)
  omega
set_option maxHeartbeats 2000000 in
theorem pick_any (c : Int) (n : Nat) (w : World) (hn : 0 < n) (hn2 : n ≤ 9000000000000000000) (h1 : -9223372036854775808 ≤ c) (h2 : c ≤ 9223372036854775807) : Calls Tryz.prog 18 #[.int .i64 c, .int .i64 (n : Int)] w fun e w' => e = .returned (.int .i64 (pkv c n : Nat)) ∧ w' = w := by
  have hni : ¬ (n : Int) = 0 := by omega
  by_cases h : c < 0
  · have e : ((pkv c n : Nat) : Int) = Int.tmod (-(c + 1)) n := by
      unfold pkv
      rw [if_pos h, Int.tmod_eq_emod_of_nonneg (by omega)]
      have := Int.emod_nonneg (-(c + 1)) (show (n : Int) ≠ 0 by omega)
      omega
    have HE := hide e
    clear e
    go_enter Tryz.func18, Tryz.ntmps18
    go_wp2
    go_ret
    exact ⟨ret_int (by rw [unhide HE, Int.neg_tmod]), rfl⟩
  · have e : ((pkv c n : Nat) : Int) = c % n := by
      unfold pkv
      rw [if_neg h]
      have := Int.emod_nonneg c (show (n : Int) ≠ 0 by omega)
      omega
    have HE := hide e
    clear e
    go_enter Tryz.func18, Tryz.ntmps18
    go_wp2
    go_ret
    exact ⟨ret_int (unhide HE).symm, rfl⟩
/-- A note of a raw number. -/
def nte (c : Int) : Bs := UInt8.ofNat (c % 256).toNat :: (List.replicate 14 0 ++ [UInt8.ofNat (c / 256 % 256).toNat])
theorem nte_len (c : Int) : (nte c).length = 16 := by simp [nte]
set_option maxHeartbeats 4000000 in
set_option maxRecDepth 8000 in
theorem note9_any (c : Int) (w : World) : Calls Tryz.prog 22 #[I c] w fun e w' => e = .returned (S (nte c)) ∧ Below w.heap.size w w' := by
  have hw1 : IntKind.u8.wrap c = c % 256 := IntKind.wrap_u8 c
  have hw2 : IntKind.u8.wrap (c / 256) = c / 256 % 256 := IntKind.wrap_u8 _
  go_enter Tryz.func22, Tryz.ntmps22
  have hl : ((List.replicate 16 (Value.int .u8 0)).set 0 (.int .u8 (c % 256))).set 15 (.int .u8 (c / 256 % 256)) = (nte c).map fun x => Value.int .u8 (x.toNat : Int) := by
    have e1 : ((UInt8.ofNat (c % 256).toNat).toNat : Int) = c % 256 := by rw [UInt8.toNat_ofNat']; omega
    have e2 : ((UInt8.ofNat (c / 256 % 256).toNat).toNat : Int) = c / 256 % 256 := by rw [UInt8.toNat_ofNat']; omega
    unfold nte
    rw [List.map_cons, List.map_append, List.map_cons, e1, e2]
    rfl
  go_wp2_with (first
    | (refine make1 inf5 Tryz.underlying117 rfl (.const (.int .i64 16)) (.const (.int .i64 16)) rfl _ _ 16 (by rfl) (by rfl) rfl rfl (by omega) ?_; intro w1 hb1 k1; have q0 := hb1.cell 0; have q15 := hb1.cell 15; have z0 := hb1.fz 0; have z15 := hb1.fz 15
       have hs := (hb1.set 0 (.int .u8 (c % 256))).set 15 (.int .u8 (c / 256 % 256))
       rw [hl] at hs
       have HX := hide (run_text _ w.heap.size 0 16 16 (nte c) (nte_len c) (fun j hj => by rw [Nat.zero_add, hs.cell]; simp [nte_len, hj]))
       have HK := hide ((k1.setCell (p := ⟨w.heap.size, 0, none⟩) (Nat.le_refl _) (.int .u8 (c % 256))).setCell (p := ⟨w.heap.size, 15, none⟩) (Nat.le_refl _) (.int .u8 (c / 256 % 256)))
       clear hb1 k1 hs)
    | (refine wpList_conv rfl 117 9 (.tmp 14) rfl _ _ (by rfl) (unhide HX) ?_))
  go_ret
  exact ⟨rfl, unhide HK⟩
end Go.Proofs.YtjopnhhdemfniaaGreatDoor
namespace Go.Proofs.YtjopnhhdemfniaaGreatDoor
open Go.RowKit Go.Lib
set_option maxHeartbeats 4000000
set_option maxRecDepth 8000
theorem wpList_bytesF {ops : Array Oper} {rest : List Oper} {o : Oper} {a : Act} {w : World} {Q : Exit → Act → World → Prop} (hgd : o.guard = none) (x : Operand) (ho : o.op = .convert 9 117 x)
    (s : List UInt8) (hx : a.eval x = .string ⟨s.toArray⟩)
    (h : ∀ w' cap, Bys w.heap.size 0 cap s w' → (∀ j, j < s.length → w'.frozen? ⟨w.heap.size, j, none⟩ = false) → Below w.heap.size w w' → wpList Tryz.prog ops Q rest (a.put o.dst (.slice (some ⟨w.heap.size, 0, none⟩) s.length cap)) w') : wpList Tryz.prog ops Q (o :: rest) a w := by
  refine wpList_plain hgd fun K hK => ?_
  have hrun := run_bytes_of_string (P := Tryz.prog) w 9 117 5 ⟨s.toArray⟩ Tryz.underlying9 Tryz.underlying117 Tryz.underlying5
  have hsz : (ByteArray.mk s.toArray).size = s.length := by simp [ByteArray.size]
  unfold Oper.wp execOp
  simp only [ho, hx, Sem.run_bind, hrun, Result.andThen_ok]
  rw [hsz]
  refine hK _ _ (h _ _ ⟨?_, ?_, ?_⟩ ?_ ?_)
  · intro j hj
    rw [Nat.zero_add]
    have e := World.cell?_alloc_mark w.drew (bytesRow ⟨s.toArray⟩ (grownCap w s.length 0 5)) 5 ((bytesRow ⟨s.toArray⟩ (grownCap w s.length 0 5)).size, (bytesRow ⟨s.toArray⟩ (grownCap w s.length 0 5)).size + 1) j
    refine e.trans ?_
    rw [bytesRow_at _ _ _ (by simpa using hj)]
    simp [hj]
  · exact grownCap_ge w s.length 0 5
  · simp
  · intro j hj
    have f := World.frozen?_alloc_mark w.drew (bytesRow ⟨s.toArray⟩ (grownCap w s.length 0 5)) 5 (bytesRow ⟨s.toArray⟩ (grownCap w s.length 0 5)).size ((bytesRow ⟨s.toArray⟩ (grownCap w s.length 0 5)).size + 1) j
    refine f.trans ?_
    have : s.length ≤ (bytesRow ⟨s.toArray⟩ (grownCap w s.length 0 5)).size := by simp [bytesRow, hsz]
    simp; omega
  · exact ((Below.refl _ _).drew).alloc (Nat.le_refl _) _
set_option maxRecDepth 8000 in
theorem bent_any (X : List UInt8) (at_ by_ : Int) (w : World) (h0 : -9223372036854775808 ≤ at_) (h1 : at_ ≤ 9223372036854775807) (hX : X.length ≤ 1000000000000) :
    Calls Tryz.prog 16 #[.string ⟨X.toArray⟩, .int .i64 at_, .int .i64 by_] w fun e w' => ∃ Y : List UInt8, e = .returned (.string ⟨Y.toArray⟩) ∧ Y.length = X.length ∧ Below w.heap.size w w' := by
  by_cases hn : X = []
  · subst hn
    go_enter Tryz.func16, Tryz.ntmps16
    go_wp2
    go_ret
    exact ⟨[], rfl, rfl, Below.refl _ _⟩
  · have hpos : 0 < X.length := List.length_pos_iff.2 hn
    have hne : X.isEmpty = false := by cases X; exact absurd rfl hn; rfl
    have hpk := pkv_lt at_ X.length hpos
    have HP := hide (fun W => pick_any at_ X.length W hpos (by omega) h0 h1)
    generalize pkv at_ X.length = k at *
    clear hn
    go_enter Tryz.func16, Tryz.ntmps16
    go_wp2_with (refine wpList_bytesF rfl (.tmp 11) rfl X (by rfl) ?_; intro w1 cap1 hb1 hf1 hbe1)
    refine (unhide HP w1).mono ?_
    rintro e w' ⟨rfl, rfl⟩
    have hc := hb1.cell k hpk
    rw [Nat.zero_add] at hc
    have hf := hf1 k hpk
    have hcap := hb1.cap
    have hlt := hb1.lt
    generalize hby : IntKind.u8.wrap by_ = c at *
    have hcr : 0 ≤ c ∧ c < 256 := by rw [← hby, IntKind.wrap_u8]; omega
    obtain ⟨d, hd⟩ : ∃ d : UInt8, c = (d.toNat : Int) := ⟨UInt8.ofNat c.toNat, by rw [UInt8.toNat_ofNat']; omega⟩
    subst hd
    have hx : (convert 117 9 (.slice (some ⟨w.heap.size, 0, none⟩) X.length cap1)).run Tryz.prog (w'.setCell ⟨w.heap.size, k, none⟩ (.int .u8 (d.toNat : Int))) = .ok (.string ⟨(X.set k d).toArray⟩) (w'.setCell ⟨w.heap.size, k, none⟩ (.int .u8 (d.toNat : Int))) := by
      refine run_text _ w.heap.size 0 X.length cap1 (X.set k d) (by simp) ?_
      intro j hj
      rw [Nat.zero_add]
      by_cases e : j = k
      · subst e
        rw [World.cell?_setCell_same _ _ _ hc]
        simp [hj]
      · rw [World.cell?_setCell_other (a := ⟨w.heap.size, k, none⟩) (b := ⟨w.heap.size, j, none⟩) (h := by intro q; injection q; omega)]
        have := hb1.cell j hj
        rw [Nat.zero_add] at this
        rw [this]
        have e2 : (X.set k d).getD j 0 = X.getD j 0 := by
          simp [show ¬ k = j by omega]
        rw [e2]
    have HX := hide hx
    clear hx hb1 hf1
    go_wp2_with (refine wpList_conv rfl 117 9 (.tmp 21) rfl _ _ (by rfl) (unhide HX) ?_)
    go_ret
    exact ⟨X.set k d, rfl, by simp, hbe1.setCell (Nat.le_refl _) _⟩
end Go.Proofs.YtjopnhhdemfniaaGreatDoor
