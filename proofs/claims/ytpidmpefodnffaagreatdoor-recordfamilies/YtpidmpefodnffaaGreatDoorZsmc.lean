import Derived.Test.YtpidmpefodnffaaGreatDoorSma
import Derived.Test.YtpidmpefodnffaaGreatDoorOwp
import Derived.Deep.Cut
import Derived.Deep.CutRange
import Derived.Test.YtpidmpefodnffaaGreatDoorZtra
import Derived.Test.YtpidmpefodnffaaGreatDoorZrbb
import Derived.Test.YtpidmpefodnffaaGreatDoorOrp
import Derived.Deep.QuietTactic
import Derived.BigQuiet
import Derived.Test.YtpidmpefodnffaaGreatDoorZsch
import Derived.Lib.CutLaws
import Derived.Test.YtpidmpefodnffaaGreatDoorZrca
import Derived.Test.YtpidmpefodnffaaGreatDoorZfde
import Derived.Test.YtpidmpefodnffaaGreatDoorRie
import Derived.Test.YtpidmpefodnffaaGreatDoorPrg
namespace Go.Proofs.YtpidmpefodnffaaGreatDoor
open Go.RowKit
set_option maxHeartbeats 8000000
set_option maxRecDepth 20000
/-- Rows that are kept. -/
def Kpr (l : List (Nat × Array Value × TypeId)) (W : World) : Prop := ∀ q, q ∈ l → W.heap[q.1]? = some (.cells q.2.1 q.2.2 (0, 0))
theorem Kpr.below {l : List (Nat × Array Value × TypeId)} {W W' : World} (h : Kpr l W) (hb : Below W.heap.size W W') : Kpr l W' := fun q hq => (hb.block _ (lt_of_row (h q hq))).trans (h q hq)
theorem Kpr.add {l : List (Nat × Array Value × TypeId)} {W : World} (h : Kpr l W) (cs : Array Value) (ty : TypeId) : Kpr ((W.heap.size, cs, ty) :: l) (W.alloc (.cells cs ty)) := fun q hq => by
  rcases List.mem_cons.1 hq with rfl | hq
  · exact heap_alloc_new _ _
  · exact (((Below.refl _ W).alloc (Nat.le_refl _) (.cells cs ty)).block _ (lt_of_row (h q hq))).trans (h q hq)
theorem Kpr.swap {a b : Nat × Array Value × TypeId} {l : List (Nat × Array Value × TypeId)} {W : World} (h : Kpr (a :: b :: l) W) : Kpr (b :: a :: l) W := fun q hq => h q (by
  simp only [List.mem_cons] at hq ⊢
  rcases hq with h | h | h
  · exact .inr (.inl h)
  · exact .inl h
  · exact .inr (.inr h))
theorem Kpr.tail {a : Nat × Array Value × TypeId} {l : List (Nat × Array Value × TypeId)} {W : World} (h : Kpr (a :: l) W) : Kpr l W := fun q hq => h q (List.mem_cons_of_mem _ hq)
theorem Kpr.r0 {a : Nat × Array Value × TypeId} {l : List (Nat × Array Value × TypeId)} {W : World} (h : Kpr (a :: l) W) : W.heap[a.1]? = some (.cells a.2.1 a.2.2 (0, 0)) := h a (List.mem_cons_self ..)
theorem Kpr.set {g : Nat} {cs : Array Value} {ty : TypeId} {l : List (Nat × Array Value × TypeId)} {W : World} (h : Kpr ((g, cs, ty) :: l) W) (hne : ∀ q, q ∈ l → q.1 ≠ g) (vs : Array Value) : Kpr ((g, vs, ty) :: l) (W.setRow g vs) := fun q hq => by
  rcases List.mem_cons.1 hq with rfl | hq
  · exact setRow_row h.r0
  · exact ((setRow_Only W g vs).block _ (lt_of_row (h.tail q hq)) (hne q hq)).trans (h.tail q hq)
theorem bset {w W : World} (h : Below w.heap.size w W) (g : Nat) (hg : w.heap.size < g) (vs : Array Value) : Below w.heap.size w (W.setRow g vs) := (setRow_Only W g vs).below h h.size (fun k e => by omega)
theorem bal {w W : World} (h : Below w.heap.size w W) (o : Obj) : Below w.heap.size w (W.alloc o) := h.alloc h.size o
theorem btr {w W W' : World} (h : Below w.heap.size w W) (hb : Below W.heap.size W W') : Below w.heap.size w W' := h.trans (hb.mono h.size)
end Go.Proofs.YtpidmpefodnffaaGreatDoor
namespace Go.Proofs.YtpidmpefodnffaaGreatDoor
open Go.RowKit Go.Lib
set_option maxHeartbeats 4000000
set_option maxRecDepth 8000
/-- What the document's reader takes, and what it leaves. -/
def dk (n : Nat) (s : Bs) : Bs := if s.length < n then [] else s.take n
def dr (n : Nat) (s : Bs) : Bs := if s.length < n then [] else s.drop n
theorem dk_len (n : Nat) (s : Bs) : (dk n s).length ≤ s.length := by unfold dk; split <;> simp; omega
theorem dr_len (n : Nat) (s : Bs) : (dr n s).length ≤ s.length := by unfold dr; split <;> simp
def dkz (z : Int) (s : Bs) : Bs := if z < 0 then [] else dk z.toNat s
def drz (z : Int) (s : Bs) : Bs := if z < 0 then s else dr z.toNat s
/-- A short text. -/
def dsh (s : Bs) : Bs := dkz (nmr (dk 1 s)) (dr 1 s)
def dsr (s : Bs) : Bs := drz (nmr (dk 1 s)) (dr 1 s)
theorem dk_laid (p r : Bs) : dk p.length (p ++ r) = p ∧ dr p.length (p ++ r) = r := by
  unfold dk dr
  rw [if_neg (by simp), if_neg (by simp)]
  simp
theorem nmr_be (n z : Nat) (h1 : 1 ≤ n) (h8 : n ≤ 8) (hz : z < 256 ^ n) (h63 : z < 9223372036854775808) : nmr (be n z) = z := by
  have hl := be_len n z
  have hn : nat (be n z) = z := by rw [nat_be]; exact Nat.mod_eq_of_lt hz
  unfold nmr
  rw [if_neg, hn]
  rintro (q | q | ⟨q, q2⟩)
  · omega
  · omega
  · have := (nat_first (be n z) q).1 (by omega)
    omega
theorem dn_laid (n z : Nat) (r : Bs) (h1 : 1 ≤ n) (h8 : n ≤ 8) (hz : z < 256 ^ n) (h63 : z < 9223372036854775808) : nmr (dk n (be n z ++ r)) = z ∧ dr n (be n z ++ r) = r := by
  have := dk_laid (be n z) r
  rw [be_len] at this
  rw [this.1, this.2]
  exact ⟨nmr_be n z h1 h8 hz h63, rfl⟩
theorem ds_laid (s r : Bs) (hs : s.length ≤ 255) : dsh ((be 1 s.length ++ s) ++ r) = s ∧ dsr ((be 1 s.length ++ s) ++ r) = r := by
  have h := dn_laid 1 s.length (s ++ r) (by decide) (by decide) (by omega) (by omega)
  have g := dk_laid s r
  unfold dsh dsr
  rw [List.append_assoc, h.1, h.2]
  unfold dkz drz
  rw [if_neg (by omega), if_neg (by omega), Int.toNat_natCast, g.1, g.2]
  exact ⟨rfl, rfl⟩
theorem nmr1_le (s : Bs) : nmr (dk 1 s) ≤ 255 := by
  unfold nmr
  split
  · omega
  · have h1 : (dk 1 s).length ≤ 1 := by unfold dk; split <;> simp; omega
    have := nat_lt (dk 1 s)
    have h2 : 256 ^ (dk 1 s).length ≤ 256 ^ 1 := Nat.pow_le_pow_right (by decide) h1
    omega
/-- A row that alone has turned. -/
theorem Kpr.turn {g : Nat} {cs vs : Array Value} {ty : TypeId} {l : List (Nat × Array Value × TypeId)} {W W' : World} (h : Kpr ((g, cs, ty) :: l) W) (hne : ∀ q, q ∈ l → q.1 ≠ g) (ho : Only (fun k => k = g) W W') (hr : W'.heap[g]? = some (.cells vs ty (0, 0))) : Kpr ((g, vs, ty) :: l) W' := fun q hq => by
  rcases List.mem_cons.1 hq with rfl | hq
  · exact hr
  · exact (ho.block _ (lt_of_row (h.tail q hq)) (hne q hq)).trans (h.tail q hq)
def Rd9 (X : Nat) (s : Bs) (w w' : World) : Prop := ∃ b : Bool, w'.heap[X]? = some (.cells #[S s, .bool b] 100 (0, 0)) ∧ Only (fun k => k = X) w w'
theorem rTake93 (X : Nat) (s : Bs) (b : Bool) (n : Nat) (w : World) (_hs : s.length ≤ 9223372036854775807) (_hn : n ≤ 9223372036854775807) (hX : w.heap[X]? = some (.cells #[S s, .bool b] 100 (0, 0))) : Calls Tryz.prog 93 #[ptr X, .int .i64 n] w fun e w' => e = .returned (S (dk n s)) ∧ Rd9 X (dr n s) w w' := by
  have c0 : w.cell? ⟨X, 0, none⟩ = some (S s) := cellr hX rfl
  have c1 : w.cell? ⟨X, 1, none⟩ = some (.bool b) := cellr hX rfl
  have z0 : w.frozen? ⟨X, 0, none⟩ = false := frozen_of_row w X 0 _ _ hX
  have z1 : w.frozen? ⟨X, 1, none⟩ = false := frozen_of_row w X 1 _ _ hX
  by_cases hlt : s.length < n
  · have HE := hide (show dk n s = [] ∧ dr n s = [] by simp [dk, dr, hlt])
    have e1 := heap_setCell_same w X 1 #[S s, .bool b] 100 (.bool true) hX
    have hlt' : (s.length : Int) < (n : Int) := by omega
    have o1 := Only.setCell w ⟨X, 1, none⟩ (.bool true)
    have c0' : (w.setCell ⟨X, 1, none⟩ (.bool true)).cell? ⟨X, 0, none⟩ = some (S s) := cellr e1 rfl
    have z0' : (w.setCell ⟨X, 1, none⟩ (.bool true)).frozen? ⟨X, 0, none⟩ = false := frozen_of_row _ X 0 _ _ e1
    have e2 := heap_setCell_same (w.setCell ⟨X, 1, none⟩ (.bool true)) X 0 _ 100 (S []) e1
    have o2 := Only.setCell (w.setCell ⟨X, 1, none⟩ (.bool true)) ⟨X, 0, none⟩ (S [])
    have HF := hide e2
    have HO := hide (o1.trans o2 (fun _ _ q => q))
    clear hX e1 e2 o1 o2
    generalize hd : dk n s = d1 at *
    generalize he : dr n s = d2 at *
    clear hd he
    go_enter Tryz.func93, Tryz.ntmps93
    go_wp2
    go_ret
    rw [(unhide HE).1, (unhide HE).2]
    exact ⟨rfl, true, unhide HF, unhide HO⟩
  · have HE := hide (show dk n s = s.take n ∧ dr n s = s.drop n by simp [dk, dr, hlt])
    have e2 := heap_setCell_same w X 0 #[S s, .bool b] 100 (S (s.drop n)) hX
    have HO := hide (Only.setCell w ⟨X, 0, none⟩ (S (s.drop n)))
    have HF := hide e2
    have hlt' : ¬ (s.length : Int) < (n : Int) := by omega
    have hle : n ≤ s.length := by omega
    have E1 : (ByteArray.mk s.toArray).extract 0 n = ⟨(s.take n).toArray⟩ := by
      apply ByteArray.ext
      simp [ByteArray.data_extract]
    have E2 : (ByteArray.mk s.toArray).extract n s.length = ⟨(s.drop n).toArray⟩ := by
      apply ByteArray.ext
      apply Array.ext'
      simp [ByteArray.data_extract]
      exact List.take_of_length_le (by simp)
    clear hX e2
    generalize hd : dk n s = d1 at *
    generalize he : dr n s = d2 at *
    clear hd he
    go_enter Tryz.func93, Tryz.ntmps93
    go_wp2
    go_ret
    rw [(unhide HE).1, (unhide HE).2]
    exact ⟨rfl, b, unhide HF, unhide HO⟩
end Go.Proofs.YtpidmpefodnffaaGreatDoor
namespace Go.Proofs.YtpidmpefodnffaaGreatDoor
open Go.RowKit Go.Lib
set_option maxHeartbeats 4000000
set_option maxRecDepth 8000
theorem rNum68 (X : Nat) (s : Bs) (b : Bool) (n : Nat) (w : World) (hs : s.length ≤ 9223372036854775807) (hn : n ≤ 9223372036854775807) (hX : w.heap[X]? = some (.cells #[S s, .bool b] 100 (0, 0))) : Calls Tryz.prog 68 #[ptr X, .int .i64 n] w fun e w' => e = .returned (I (nmr (dk n s))) ∧ Rd9 X (dr n s) w w' := by
  have H1 := hide (rTake93 X s b n w hs hn hX)
  have H2 := hide (fun W => rNumber_any (dk n s) W (Nat.le_trans (dk_len n s) hs))
  clear hX hs hn
  generalize nmr (dk n s) = z at *
  generalize dk n s = d1 at *
  generalize dr n s = d2 at *
  go_enter Tryz.func68, Tryz.ntmps68
  go_wp2_with fail
  refine (unhide H1).mono ?_
  rintro e w1 ⟨rfl, hr⟩
  have HR := hide hr
  clear hr H1
  go_wp2_with fail
  refine (unhide H2 w1).mono ?_
  rintro e w9 ⟨rfl, hw9⟩
  rw [hw9]
  clear hw9 w9 H2
  go_wp2
  go_ret
  exact ⟨rfl, unhide HR⟩
theorem Rd9.go {X : Nat} {s s' : Bs} {w w1 w2 : World} (h : Rd9 X s w w1) (g : Rd9 X s' w1 w2) : Rd9 X s' w w2 := by
  obtain ⟨b, _, h2⟩ := h
  obtain ⟨b', g1, g2⟩ := g
  exact ⟨b', g1, h2.trans g2 (fun _ _ q => q)⟩
theorem rShort69 (X : Nat) (s : Bs) (b : Bool) (w : World) (hs : s.length ≤ 9223372036854775807) (hX : w.heap[X]? = some (.cells #[S s, .bool b] 100 (0, 0))) : Calls Tryz.prog 69 #[ptr X] w fun e w' => e = .returned (S (dsh s)) ∧ Rd9 X (dsr s) w w' := by
  have H1 := hide (rNum68 X s b 1 w hs (by decide) hX)
  have HE := hide (show dsh s = dkz (nmr (dk 1 s)) (dr 1 s) ∧ dsr s = drz (nmr (dk 1 s)) (dr 1 s) from ⟨rfl, rfl⟩)
  have HL := hide (Nat.le_trans (dr_len 1 s) hs)
  have HN := hide (nmr1_le s)
  clear hX hs
  generalize dsh s = o1 at *
  generalize dsr s = o2 at *
  generalize nmr (dk 1 s) = z at *
  generalize dr 1 s = d2 at *
  go_enter Tryz.func69, Tryz.ntmps69
  go_wp2_with fail
  refine (unhide H1).mono ?_
  rintro e w1 ⟨rfl, hr⟩
  have HR := hide hr
  clear hr H1
  by_cases hz : z < 0
  · have HV := hide (show o1 = [] ∧ o2 = d2 by rw [(unhide HE).1, (unhide HE).2]; simp [dkz, drz, hz])
    clear HE HL HN
    go_wp2
    go_ret
    rw [(unhide HV).1, (unhide HV).2]
    exact ⟨rfl, unhide HR⟩
  · have HV := hide (show o1 = dk z.toNat d2 ∧ o2 = dr z.toNat d2 by rw [(unhide HE).1, (unhide HE).2]; simp [dkz, drz, hz])
    obtain ⟨b', hr1, _⟩ := unhide HR
    have H3 := rTake93 X d2 b' z.toNat w1 (unhide HL) (by have := unhide HN; omega) hr1
    rw [Int.toNat_of_nonneg (by omega)] at H3
    have H4 := hide H3
    clear H3 hr1 HE HL HN
    go_wp2_with fail
    refine (unhide H4).mono ?_
    rintro e w2 ⟨rfl, hr⟩
    have HR2 := hide ((unhide HR).go hr)
    clear hr H4 HR
    go_wp2
    go_ret
    rw [(unhide HV).1, (unhide HV).2]
    exact ⟨rfl, unhide HR2⟩
/-- The number behind a key's letter. -/
def aft (k : Bs) : Int := if k.length < 2 then -1 else nmr (k.drop 1)
theorem rAfter87 (k : Bs) (w : World) (hk : k.length ≤ 9223372036854775807) : Calls Tryz.prog 87 #[S k] w fun e w' => e = .returned (I (aft k)) ∧ w' = w := by
  by_cases h : k.length < 2
  · have HE := hide (show aft k = -1 by simp [aft, h])
    have h' : (k.length : Int) < 2 := by omega
    generalize aft k = z at *
    go_enter Tryz.func87, Tryz.ntmps87
    go_wp2
    go_ret
    exact ⟨ret_int (by rw [unhide HE]), rfl⟩
  · have HE := hide (show aft k = nmr (k.drop 1) by simp [aft, h])
    have H1 := hide (fun W => rNumber_any (k.drop 1) W (by simp; omega))
    have h' : ¬ (k.length : Int) < 2 := by omega
    have h1' : (1 : Int) ≤ (k.length : Int) := by omega
    have E2 : (ByteArray.mk k.toArray).extract 1 k.length = ⟨(k.drop 1).toArray⟩ := by
      apply ByteArray.ext
      apply Array.ext'
      simp [ByteArray.data_extract]
      exact List.take_of_length_le (by simp)
    generalize aft k = z at *
    generalize nmr (k.drop 1) = z2 at *
    generalize k.drop 1 = kd at *
    have h1n : 1 ≤ k.length := by omega
    go_enter Tryz.func87, Tryz.ntmps87
    go_wp2_with fail
    refine (unhide H1 w).mono ?_
    rintro e w9 ⟨rfl, hw9⟩
    rw [hw9]
    clear hw9 w9 H1
    go_wp2
    go_ret
    exact ⟨ret_int (by rw [unhide HE]), rfl⟩
theorem rSame71 (a b c d : Bs) (w : World) : Calls Tryz.prog 71 #[.agg #[S a, S b], .agg #[S c, S d]] w fun e w' => e = .returned (.bool (a == c && b == d)) ∧ Below w.heap.size w w' := by
  have HB := hide (((Below.refl _ w).alloc (Nat.le_refl _) (.cells #[S a, S b] 30)).alloc (by simp) (.cells #[S c, S d] 30))
  have K := (show Kpr [] w from fun q hq => by cases hq).add #[S a, S b] 30 |>.add #[S c, S d] 30
  have hsz : (w.alloc (.cells #[S a, S b] 30)).heap.size = w.heap.size + 1 := by simp
  rw [hsz] at K
  have x0 : ((w.alloc (.cells #[S a, S b] 30)).alloc (.cells #[S c, S d] 30)).cell? ⟨w.heap.size, 0, none⟩ = some (S a) := cellr K.tail.r0 rfl
  have x1 : ((w.alloc (.cells #[S a, S b] 30)).alloc (.cells #[S c, S d] 30)).cell? ⟨w.heap.size, 1, none⟩ = some (S b) := cellr K.tail.r0 rfl
  have y0 : ((w.alloc (.cells #[S a, S b] 30)).alloc (.cells #[S c, S d] 30)).cell? ⟨w.heap.size + 1, 0, none⟩ = some (S c) := cellr K.r0 rfl
  have y1 : ((w.alloc (.cells #[S a, S b] 30)).alloc (.cells #[S c, S d] 30)).cell? ⟨w.heap.size + 1, 1, none⟩ = some (S d) := cellr K.r0 rfl
  clear K hsz
  generalize hW1 : (w.alloc (.cells #[S a, S b] 30)).alloc (.cells #[S c, S d] 30) = W1 at *
  by_cases h1 : a = c
  · subst h1
    by_cases h2 : b = d
    · subst h2
      go_enter Tryz.func71, Tryz.ntmps71
      go_wp2
      go_ret
      exact ⟨ret_bool (by simp), unhide HB⟩
    · have g2 : (b == d) = false := by simpa using h2
      go_enter Tryz.func71, Tryz.ntmps71
      go_wp2
      go_ret
      exact ⟨ret_bool (by simp [h2]), unhide HB⟩
  · have g1 : (a == c) = false := by simpa using h1
    go_enter Tryz.func71, Tryz.ntmps71
    go_wp2
    go_ret
    exact ⟨ret_bool (by simp [h1]), unhide HB⟩
end Go.Proofs.YtpidmpefodnffaaGreatDoor
namespace Go.Proofs.YtpidmpefodnffaaGreatDoor
open Go.RowKit Go.Lib
set_option maxHeartbeats 4000000
set_option maxRecDepth 8000
theorem aft_laid (c : UInt8) (n z : Nat) (h1 : 1 ≤ n) (h8 : n ≤ 8) (hz : z < 256 ^ n) (h63 : z < 9223372036854775808) : aft (c :: be n z) = z := by
  unfold aft
  rw [if_neg (by simp [be_len]; omega)]
  exact nmr_be n z h1 h8 hz h63
end Go.Proofs.YtpidmpefodnffaaGreatDoor
namespace Go.Proofs.YtpidmpefodnffaaGreatDoor
open Go.RowKit Go.Lib
theorem run_geq (x y : Bs) (W : World) : (binOp .geq 9 (S x) (S y)).run Tryz.prog W = .ok (.bool (decide (¬ x < y))) W := by
  have e : (!Op.bytesLess (ByteArray.mk x.toArray).toList (ByteArray.mk y.toArray).toList) = decide (¬ x < y) := by
    have e1 : ∀ z : Bs, (ByteArray.mk z.toArray).toList = z := fun z => by simp [ByteArray.toList_eq]
    rw [e1, e1, less_eq, Bool.eq_iff_iff]
    simp only [Bool.not_eq_true', decide_eq_false_iff_not, decide_eq_true_eq]
  rw [← e]
  rfl
theorem tl17 : ∀ {l : List Bs}, (∀ x ∈ l, nm x = true) → (tl l).length ≤ 17 * l.length
  | [], _ => by simp [tl]
  | a :: r, h => by
    have h1 := tl17 (l := r) (fun x hx => h x (List.mem_cons_of_mem _ hx))
    have h2 : a.length ≤ 16 := by
      have := h a (List.mem_cons_self ..)
      simp [nm] at this
      exact this.1.2
    simp [tl]
    omega
theorem tx17 {l : List Bs} (h : okl l = true) : (tx l).length ≤ 17 * l.length := by
  have := tl17 (okl_iff.1 h).1
  have e := tx_tl l
  omega
theorem right_okl (l : List Bs) : right l = (okl l && !many l) := by
  unfold right
  rw [wr_eq]
  unfold tm
  cases okl l <;> cases many l <;> rfl
theorem bel_q {B : Nat} {w wr : World} (h : Below B w wr) (q : Nat) : Below B w (wr.drewN q) := h.trans ⟨rfl, rfl, rfl, Nat.le_refl _, fun _ _ => rfl⟩
set_option maxHeartbeats 8000000 in
set_option maxRecDepth 8000 in
theorem rScope139 (a : Option Addr) (n cap : Nat) (l : List Bs) (w : World) (hp : Sts w a n l) (hn : n ≤ 140737488355000) (hL : Lns l) :
    Calls Tryz.prog 139 #[.slice a n cap] w fun e w' => e = .returned (.bool (right l)) ∧ Below w.heap.size w w' := by
  have HP := hide hp
  have HN := hide hp.1
  have HL := hide hL
  have HRE := hide (right_okl l)
  clear hp hL
  generalize right l = RR at *
  go_enter Tryz.func139, Tryz.ntmps139
  go_wp2
  go_loopw [3, 4] (fun a9 i wr => ∃ k : Nat, k ≤ n ∧ i = .int .i64 k ∧ a9 = .int .i64 ((tx (l.take k)).length : Nat) ∧ okl (l.take k) = true ∧ Below w.heap.size w wr) (fun _ i _ => n - (Go.RowKit.intOf i).toNat)
  case atStart => exact ⟨0, by omega, rfl, rfl, rfl, Below.refl _ _⟩
  case round =>
    obtain ⟨k, hk, rfl, rfl, hok, hbr⟩ := hrel
    have hb17 := tx17 hok
    rw [List.length_take, Nat.min_eq_left (by have := unhide HN; omega)] at hb17
    by_cases hlt : k < n
    · obtain ⟨p, o, rfl, hpl, hc0⟩ := ((unhide HP).below hbr).at hlt
      have hkl : k < l.length := by have := unhide HN; omega
      have HOK := hide hok
      have hlt' : (k : Int) < (n : Int) := by omega
      have HNM := hide (refName_any (l.getD k []) wr (unhide HL k))
      have HNO := hide (okl_nm k hkl)
      have HST := hide (okl_step k hkl hok)
      have HB := hide hbr
      have HQ : Hid (nm (l.getD k []) = true → (l.getD k []).length ≤ 16) := hide (fun h => by simp [nm] at h; exact h.1.2)
      clear hok
      by_cases h0 : k = 0
      · subst h0
        have HT := hide (tx_first l hkl)
        rw [Nat.add_zero] at hc0
        generalize l.getD 0 [] = x at *
        cases hx : nm x
        · rw [hx] at HNM
          have HR := hide (show RR = false by rw [unhide HRE, unhide HNO hx]; rfl)
          clear HNO HST HOK hx hbr HT HQ
          go_wp2_with (first | (go_at_call 110; refine (unhide HNM).mono ?_; rintro e w2 ⟨rfl, rfl⟩) | fail)
          go_quiet (fail)
          have HB2 := hide (bel_q (unhide HB) nq)
          generalize w2.drewN nq = wv at *
          go_wp2
          go_ret
          exact ⟨by rw [unhide HR]; rfl, unhide HB2⟩
        · rw [hx] at HNM
          have HR := hide (unhide HST hx (fun h => absurd h (Nat.lt_irrefl 0)))
          have hl16 := unhide HQ hx
          clear HNO HST HOK hx hbr HQ
          go_wp2_with (first | (go_at_call 110; refine (unhide HNM).mono ?_; rintro e w2 ⟨rfl, rfl⟩) | fail)
          go_quiet (fail)
          have HB2 := hide (bel_q (unhide HB) nq)
          have hc0' : (w2.drewN nq).cell? ⟨p, o, none⟩ = some (S x) := hc0
          generalize w2.drewN nq = wv at *
          go_wp2
          refine ⟨⟨1, by omega, by go_num, ?_, unhide HR, unhide HB2⟩, by simp [Go.RowKit.intOf]; omega⟩
          rw [unhide HT]
          simp [tx]
          exact IntWalk.wrap64_in _ (by omega)
      · obtain ⟨k, rfl⟩ : ∃ m, k = m + 1 := ⟨k - 1, by omega⟩
        have h0' : decide ((0 : Int) < ((k + 1 : Nat) : Int)) = true := by rw [decide_eq_true_eq]; omega
        obtain ⟨p', o', e1, _, hc1⟩ := ((unhide HP).below hbr).at (show k < n by omega)
        cases e1
        have HUP := hide (okl_up (k + 1) hkl (by omega))
        have HT := hide (tx_step l (k + 1) hkl (by omega))
        rw [Nat.add_sub_cancel] at HUP HST
        generalize l.getD (k + 1) [] = x at *
        generalize l.getD k [] = y at *
        cases hx : nm x
        · rw [hx] at HNM
          have HR := hide (show RR = false by rw [unhide HRE, unhide HNO hx]; rfl)
          clear HNO HST HOK hx HUP hbr HT HQ
          go_wp2_with (first | (go_at_call 110; refine (unhide HNM).mono ?_; rintro e w2 ⟨rfl, rfl⟩) | fail)
          go_quiet (fail)
          have HB2 := hide (bel_q (unhide HB) nq)
          generalize w2.drewN nq = wv at *
          go_wp2
          go_ret
          exact ⟨by rw [unhide HR]; rfl, unhide HB2⟩
        · rw [hx] at HNM
          have HR := hide (unhide HST hx)
          have hl16 := unhide HQ hx
          have hq : ∀ W, (binOp .geq 9 (S y) (S x)).run Tryz.prog W = .ok (.bool (decide (¬ y < x))) W := run_geq y x
          clear HNO HST HOK hx hbr HQ
          by_cases hxy : y < x
          · rw [show decide (¬ y < x) = false by simp [hxy]] at hq
            have HR2 := hide (unhide HR (fun _ => hxy))
            clear HR HUP hxy
            go_wp2_with (first | (go_at_call 110; refine (unhide HNM).mono ?_; rintro e w2 ⟨rfl, rfl⟩) | fail)
            go_quiet (fail)
            have HB2 := hide (bel_q (unhide HB) nq)
            have hc0' : (w2.drewN nq).cell? ⟨p, o + (k + 1), none⟩ = some (S x) := hc0
            generalize w2.drewN nq = wv at *
            go_wp2
            refine ⟨⟨k + 1 + 1, by omega, by go_num, ?_, unhide HR2, unhide HB2⟩, by simp [Go.RowKit.intOf]; omega⟩
            rw [unhide HT]
            simp
            omega
          · rw [show decide (¬ y < x) = true by simp [hxy]] at hq
            have HR2 := hide (show RR = false by rw [unhide HRE, unhide HUP hxy]; rfl)
            clear HR HUP hxy HT
            go_wp2_with (first | (go_at_call 110; refine (unhide HNM).mono ?_; rintro e w2 ⟨rfl, rfl⟩) | fail)
            go_quiet (fail)
            have HB2 := hide (bel_q (unhide HB) nq)
            generalize w2.drewN nq = wv at *
            go_wp2
            go_ret
            exact ⟨by rw [unhide HR2]; rfl, unhide HB2⟩
    · have hd : ¬ (k : Int) < (n : Int) := by omega
      have e : l.take k = l := List.take_of_length_le (by have := unhide HN; omega)
      rw [e] at hok hb17 ⊢
      have HM : Hid (RR = (decide (n ≤ 8) && decide ((tx l).length ≤ 60))) := hide (by
        rw [unhide HRE, hok, Bool.true_and]
        unfold many
        have := unhide HN
        rw [Bool.eq_iff_iff]
        simp
        omega)
      have HB := hide hbr
      clear hok e hbr
      generalize (tx l).length = m at *
      by_cases h8 : n ≤ 8
      · have h8' : (n : Int) ≤ 8 := by omega
        go_wp2
        go_ret
        exact ⟨ret_bool (by rw [unhide HM, Bool.eq_iff_iff]; simp [h8]; omega), unhide HB⟩
      · have h8' : ¬ (n : Int) ≤ 8 := by omega
        go_wp2
        go_ret
        exact ⟨ret_bool (by rw [unhide HM]; simp [h8]), unhide HB⟩
end Go.Proofs.YtpidmpefodnffaaGreatDoor
namespace Go.Proofs.YtpidmpefodnffaaGreatDoor
open Go.RowKit Go.Lib
def prt (s : Bs) : List Bs := if s = [] then [] else spl s
theorem prt_tx {l : List Bs} (h : right l = true) : prt (tx l) = l := by
  unfold prt
  by_cases q : l = []
  · subst q; rfl
  · have hn := (right_iff.1 h).1
    rw [if_neg (tx_ne q hn), spl_tx q hn]
theorem ba_cut (s : Bs) (a b : Nat) : (ByteArray.mk s.toArray).extract a b = ⟨((s.drop a).take (b - a)).toArray⟩ := by
  apply ByteArray.ext
  simp [ByteArray.data_extract]
theorem spl_hit (t : Bs) (k : Nat) (hk : k < t.length) (hno : ∀ c ∈ t.take k, c ≠ 32) (h32 : t[k] = 32) : spl t = t.take k :: spl (t.drop (k + 1)) := by
  have e : t = t.take k ++ 32 :: t.drop (k + 1) := by
    conv => lhs; rw [← List.take_append_drop k t]
    rw [List.drop_eq_getElem_cons hk, h32]
  conv => lhs; rw [e]
  exact spl_word hno _
/-- One more text at the end of a row of one's own. -/
theorem pushS {ops : Array Oper} {rest : List Oper} {o : Oper} {a : Act} {w : World} {Q : Exit → Act → World → Prop} (hgd : o.guard = none) (s x : Operand)
    (ho : o.op = .call { callee := .builtin .append, args := #[s, x], argTypes := #[22, 22] }) (B : Nat) (v : Value) (l : List Bs) (hs : a.eval s = v) (w0 : World) (hown : OwnS B w0 v l) (y : Bs) (hw : w = w0.alloc (.cells #[S y] 9)) (hx : a.eval x = .slice (some ⟨w0.heap.size, 0, none⟩) 1 1) (hn : l.length ≤ 1000000000000) (hB : B ≤ w0.heap.size)
    (h : ∀ v' w', OwnS B w' v' (l ++ [y]) → (∀ b w1, b ≤ B → Below b w1 w0 → Below b w1 w') → wpList Tryz.prog ops Q rest (a.put o.dst v') w') : wpList Tryz.prog ops Q (o :: rest) a w := by
  subst hw
  obtain ⟨i0, hi, hz0, hz1, hz2⟩ := info_parts info9
  refine wpList_append_own _ hgd s x 22 ho B 9 i0 (.string ⟨#[]⟩) 1 16 Tryz.underlying22 hi hz0 hz1 hz2 rfl (by decide) v l.length (l.map encStr) hs (World.ownsRow.alloc hown _) ⟨w0.heap.size, 0, none⟩ 1 1 [S y] hx rfl (cell_one_new _ _ _) (by intro u hu; simp at hu; subst hu; rfl) (by unfold maxLen; omega) (by omega) (by simp; omega) ?_
  intro v' w' ho' hg' _
  refine h v' w' ?_ ?_
  · unfold OwnS
    simpa using ho'
  · intro b w1 hb hbel
    have hs : b ≤ w0.heap.size := by omega
    refine (hbel.alloc hs _).grown hg' (by simp; omega) (fun j hj => ?_)
    have := (World.ownsRow.lt (World.ownsRow.alloc hown (.cells #[S y] 9)) j hj).1
    omega
set_option maxHeartbeats 8000000 in
set_option maxRecDepth 8000 in
theorem parts_any (s : Bs) (w : World) (hs : s.length < 4294967281) : Calls Tryz.prog 141 #[S s] w (OutL w (prt s)) := by
  have HPE := hide (show prt s = if s = [] then [] else spl s from rfl)
  generalize prt s = PR at *
  have HE : Hid (spl s = spl s) := hide rfl
  go_enter Tryz.func141, Tryz.ntmps141
  go_wp2
  go_loopw [3, 4, 5] (fun v f i wq => ∃ (k j : Nat) (out : List Bs), k ≤ j ∧ j ≤ s.length ∧ f = .int .i64 k ∧ i = .int .i64 j ∧ out ++ spl (s.drop k) = spl s ∧ out.length ≤ k ∧ (∀ c ∈ (s.drop k).take (j - k), c ≠ 32) ∧ OwnS w.heap.size wq v out ∧ Below w.heap.size w wq) (fun _ _ i _ => s.length - (Go.RowKit.intOf i).toNat)
  case atStart => exact ⟨0, 0, [], by omega, by omega, rfl, rfl, rfl, by simp, by simp, own_nil _ _, Below.refl _ _⟩
  case round =>
    obtain ⟨k, j, out, hkj, hj, rfl, rfl, hsp, hol, hno, hown, hbel⟩ := hrel
    obtain ⟨va, vc, rfl⟩ := hown.form
    have HO := hide hown
    have HB := hide hbel
    have hzB := hbel.size
    have HSP := hide hsp
    have HNO := hide hno
    clear hown hbel hsp hno
    by_cases hlt : j < s.length
    · have hsz : j < (ByteArray.mk s.toArray).size := by simpa [ByteArray.size] using hlt
      have hC : (ByteArray.mk s.toArray)[j]'hsz = s[j] := rfl
      have hlt' : (j : Int) < (s.length : Int) := by omega
      by_cases h32 : s[j] = 32
      · have HH := hide h32
        have hc32 : ((s[j].toNat : Int) == 32) = true := by rw [h32]; rfl
        clear h32
        go_wp2_with (first
          | (at_builtin; refine pushS rfl (.tmp 16) (.tmp 21) rfl w.heap.size (.slice va out.length vc) out (by rfl) wr (unhide HO) ((s.drop k).take (j - k)) (by rw [ba_cut]) (by rfl) (by omega) hzB ?_; intro v2 w2 ho2 hb2; have HO2 := hide ho2; have HB2 := hide (hb2 _ _ (Nat.le_refl _) (unhide HB)); clear ho2 hb2))
        refine ⟨⟨j + 1, j + 1, out ++ [(s.drop k).take (j - k)], by omega, by omega, by go_num, by go_num, ?_, by simp; omega, by simp, unhide HO2, unhide HB2⟩, by simp [Go.RowKit.intOf]; omega⟩
        rw [← unhide HSP]
        have hk2 : j - k < (s.drop k).length := by rw [List.length_drop]; omega
        have e2 : (s.drop k)[j - k] = 32 := by
          rw [List.getElem_drop]
          have e3 : k + (j - k) = j := by omega
          simp only [e3]
          exact unhide HH
        rw [spl_hit (s.drop k) (j - k) hk2 (unhide HNO) e2, List.drop_drop, show k + (j - k + 1) = j + 1 by omega]
        simp
      · have HH := hide h32
        have hc32 : ((s[j].toNat : Int) == 32) = false := by
          rw [beq_eq_false_iff_ne]
          intro e
          have : s[j].toNat = 32 := by omega
          exact h32 (UInt8.toNat_inj.1 this)
        clear h32
        go_wp2
        refine ⟨⟨k, j + 1, out, by omega, by omega, rfl, by go_num, unhide HSP, hol, ?_, unhide HO, unhide HB⟩, by simp [Go.RowKit.intOf]; omega⟩
        have hk2 : j - k < (s.drop k).length := by rw [List.length_drop]; omega
        rw [show j + 1 - k = j - k + 1 by omega, take_snoc _ _ hk2]
        intro c hc
        rcases List.mem_append.1 hc with q | q
        · exact unhide HNO c q
        · rw [List.mem_singleton.1 q, List.getElem_drop]
          have e3 : k + (j - k) = j := by omega
          simp only [e3]
          exact unhide HH
    · have hd : ¬ (j : Int) < (s.length : Int) := by omega
      have hjl : j = s.length := by omega
      have hk' : k ≤ s.length := by omega
      by_cases hz : s = []
      · have HV := hide (show PR = [] by rw [unhide HPE, if_pos hz])
        subst hz
        clear HPE HSP HNO HE
        go_wp2
        go_ret
        rw [unhide HV]
        exact ⟨none, 0, rfl, own_nil _ _, unhide HB⟩
      · have HV := hide (show PR = spl s by rw [unhide HPE, if_neg hz])
        have gz : (s == []) = false := by simpa using hz
        clear HPE
        go_wp2_with (first
          | (at_builtin; refine pushS rfl (.tmp 27) (.tmp 31) rfl w.heap.size (.slice va out.length vc) out (by rfl) wr (unhide HO) (s.drop k) (by rw [ba_cut, List.take_of_length_le (by simp)]) (by rfl) (by omega) hzB ?_; intro v2 w2 ho2 hb2; have HO2 := hide ho2; have HB2 := hide (hb2 _ _ (Nat.le_refl _) (unhide HB)); clear ho2 hb2))
        go_ret
        have e : out ++ [s.drop k] = PR := by
          rw [unhide HV, ← unhide HSP, spl_one]
          have := unhide HNO
          rw [hjl, List.take_of_length_le (by simp)] at this
          exact this
        have ho := unhide HO2
        rw [e] at ho
        obtain ⟨p2, c2, rfl⟩ := ho.form
        exact ⟨p2, c2, rfl, ho, unhide HB2⟩
end Go.Proofs.YtpidmpefodnffaaGreatDoor
namespace Go.Proofs.YtpidmpefodnffaaGreatDoor
open Go.RowKit Go.Lib
set_option maxHeartbeats 4000000
set_option maxRecDepth 8000
/-- What comes out of the reader's scope. -/
def OutQ (X : Nat) (s : Bs) (r : List Bs) (w : World) (e : Ending) (w' : World) : Prop := ∃ a cap, e = .returned (.slice a r.length cap) ∧ OwnS w.heap.size w' (.slice a r.length cap) r ∧ Rd9 X s w w'
theorem dsh_255 (s : Bs) : (dsh s).length ≤ 255 := by
  unfold dsh dkz
  split
  · simp
  · have h := nmr1_le s
    generalize nmr (dk 1 s) = z at *
    unfold dk
    split
    · simp
    · rw [List.length_take]; omega
theorem rSc70 (X : Nat) (s : Bs) (b : Bool) (w : World) (hs : s.length ≤ 9223372036854775807) (hX : w.heap[X]? = some (.cells #[S s, .bool b] 100 (0, 0))) : Calls Tryz.prog 70 #[ptr X] w (OutQ X (dsr s) (prt (dsh s)) w) := by
  have H1 := hide (rShort69 X s b w hs hX)
  have H2 := hide (fun W => parts_any (dsh s) W (by have := dsh_255 s; omega))
  clear hX hs
  generalize prt (dsh s) = r at *
  generalize dsh s = d1 at *
  generalize dsr s = d2 at *
  go_enter Tryz.func70, Tryz.ntmps70
  go_wp2_with fail
  refine (unhide H1).mono ?_
  rintro e w1 ⟨rfl, hr⟩
  have HR := hide hr
  clear hr H1
  go_wp2_with fail
  refine (unhide H2 w1).mono ?_
  rintro e w2 ⟨a, cap, rfl, ho, hb⟩
  have HQ : Hid (OutQ X d2 r w (.returned (.slice a r.length cap)) w2) := hide (by
    obtain ⟨b', h1, h2⟩ := unhide HR
    exact ⟨a, cap, rfl, ho.below (Below.refl _ _) h2.size, b', (hb.block _ (lt_of_row h1)).trans h1, h2.trans (Only.of_below hb) (fun _ _ q => q)⟩)
  clear ho hb HR H2
  go_wp2
  go_ret
  exact unhide HQ
end Go.Proofs.YtpidmpefodnffaaGreatDoor
namespace Go.Proofs.YtpidmpefodnffaaGreatDoor
open Go.RowKit Go.Lib
set_option maxHeartbeats 4000000
set_option maxRecDepth 8000
theorem dsr_len (s : Bs) : (dsr s).length ≤ s.length := by
  unfold dsr drz
  split
  · exact dr_len _ _
  · exact Nat.le_trans (dr_len _ _) (dr_len _ _)
theorem hne3 {A B C D : Nat} (h1 : A ≠ D) (h2 : B ≠ D) (h3 : C ≠ D) {x y z : Array Value × TypeId} : ∀ q, q ∈ [(A, x), (B, y), (C, z)] → q.1 ≠ D := by
  intro q hq
  simp only [List.mem_cons, List.not_mem_nil, or_false] at hq
  rcases hq with rfl | rfl | rfl
  · exact h1
  · exact h2
  · exact h3
theorem Kpr.cellset {g : Nat} {cs : Array Value} {ty : TypeId} {l : List (Nat × Array Value × TypeId)} {W : World} (h : Kpr ((g, cs, ty) :: l) W) (hne : ∀ q, q ∈ l → q.1 ≠ g) (j : Nat) (v : Value) : Kpr ((g, cs.setIfInBounds j v, ty) :: l) (W.setCell ⟨g, j, none⟩ v) := fun q hq => by
  rcases List.mem_cons.1 hq with rfl | hq
  · exact heap_setCell_same W g j _ _ v h.r0
  · exact ((Only.setCell W ⟨g, j, none⟩ v).block _ (lt_of_row (h.tail q hq)) (hne q hq)).trans (h.tail q hq)
theorem bset' {w W : World} (h : Below w.heap.size w W) (g : Nat) (hg : w.heap.size ≤ g) (vs : Array Value) : Below w.heap.size w (W.setRow g vs) := (setRow_Only W g vs).below h h.size (fun k e => by omega)
theorem bcell {w W : World} (h : Below w.heap.size w W) (g : Nat) (hg : w.heap.size ≤ g) (j : Nat) (v : Value) : Below w.heap.size w (W.setCell ⟨g, j, none⟩ v) := (Only.setCell W ⟨g, j, none⟩ v).below h h.size (fun k e => by have : k = g := e; omega)
end Go.Proofs.YtpidmpefodnffaaGreatDoor
namespace Go.Proofs.YtpidmpefodnffaaGreatDoor
open Go.RowKit Go.Lib
set_option maxHeartbeats 4000000
set_option maxRecDepth 8000
def fgA (co : Int) : Bool := decide (0 ≤ co) && decide (co ≤ 4611686018427387904)
def fgB (cr us idl ab : Int) : Bool := decide (cr ≤ us) && (spn idl && spn ab)
def fgC (ge st : Int) : Bool := gnr ge && (decide (1 ≤ st) && decide (st ≤ 4))
def fgD (us st en : Int) : Bool := if st == 1 then en == 0 else decide (us ≤ en)
theorem famN (id9 : Int) (cl su : Bs) (sc : List Bs) (cr us idl ab gr ge tk9 st en co : Int) : famOK id9 cl su sc cr us idl ab gr ge tk9 st en co = (idn id9 && (idn tk9 && (nm cl && (nm su && (right sc && (fgA co && (tim cr && (tim us && (tim gr && (tim en && (fgB cr us idl ab && (fgC ge st && fgD us st en)))))))))))) := by
  have e1 : (co == 0 || idn co) = fgA co := by
    rw [Bool.eq_iff_iff]
    simp only [idn, fgA, Bool.or_eq_true, beq_iff_eq, Bool.and_eq_true, decide_eq_true_eq]
    omega
  have e2 : staOK us st en = (tim en && (decide (1 ≤ st) && decide (st ≤ 4)) && fgD us st en) := by
    unfold staOK fgD
    by_cases h1 : st = 1
    · subst h1
      by_cases h2 : en = 0
      · subst h2; simp [tim]
      · simp [h2]
    · by_cases h2 : st = 2
      · subst h2; simp
      · by_cases h3 : st = 3
        · subst h3; simp
        · by_cases h4 : st = 4
          · subst h4; simp
          · have : (decide (1 ≤ st) && decide (st ≤ 4)) = false := by
              rw [Bool.eq_false_iff]
              simp
              omega
            rw [this]
            simp [h1, h2, h3, h4]
  unfold famOK
  rw [right_nm, right_nm, e1, e2]
  unfold fgB fgC
  generalize fgA co = a1
  generalize fgD us st en = a2
  generalize (decide (1 ≤ st) && decide (st ≤ 4)) = a3
  cases idn id9 <;> cases idn tk9 <;> cases nm cl <;> cases nm su <;> cases right sc <;> cases a1 <;> cases tim cr <;> cases tim us <;> cases tim gr <;> cases tim en <;> simp <;> cases decide (cr ≤ us) <;> cases spn idl <;> cases spn ab <;> cases gnr ge <;> cases a3 <;> cases a2 <;> rfl
theorem fgAN (co : Int) : (!fgA co) = (decide (co < 0) || decide (4611686018427387904 < co)) := by
  rw [Bool.eq_iff_iff]; unfold fgA; simp <;> omega
theorem fgBN (cr us idl ab : Int) : (!fgB cr us idl ab) = (decide (us < cr) || decide (idl < 1) || decide (1099511627776 < idl) || decide (ab < 1) || decide (1099511627776 < ab)) := by
  rw [Bool.eq_iff_iff]; unfold fgB spn; simp <;> omega
theorem fgCN (ge st : Int) : (!fgC ge st) = (decide (ge < 1) || decide (1073741824 < ge) || decide (st < 1) || decide (4 < st)) := by
  rw [Bool.eq_iff_iff]; unfold fgC gnr; simp <;> omega
theorem rMay75 (id9 : Int) (cl su : Bs) (va : Option Addr) (vc : Nat) (sc : List Bs) (cr us idl ab gr ge tk9 st en co : Int) (w : World) (hcl : cl.length ≤ 9223372036854775807) (hsu : su.length ≤ 9223372036854775807) (hsc : Sts w va sc.length sc) (hsl : sc.length ≤ 140737488355000) (hln : Lns sc) : Calls Tryz.prog 75 #[.agg #[I id9, S cl, S su, .slice va sc.length vc, I cr, I us, I idl, I ab, I gr, I ge, I tk9, I st, I en, I co]] w fun e w' => e = .returned (.bool (famOK id9 cl su sc cr us idl ab gr ge tk9 st en co)) ∧ Below w.heap.size w w' := by
  have hB0 : Below w.heap.size w (w.alloc (.cells #[I id9, S cl, S su, .slice va sc.length vc, I cr, I us, I idl, I ab, I gr, I ge, I tk9, I st, I en, I co] 40)) := (Below.refl _ w).alloc (Nat.le_refl _) _
  have hT := heap_alloc_new w (.cells #[I id9, S cl, S su, .slice va sc.length vc, I cr, I us, I idl, I ab, I gr, I ge, I tk9, I st, I en, I co] 40)
  have c0 : (w.alloc (.cells #[I id9, S cl, S su, .slice va sc.length vc, I cr, I us, I idl, I ab, I gr, I ge, I tk9, I st, I en, I co] 40)).cell? ⟨w.heap.size, 0, none⟩ = some (I id9) := cellr hT rfl
  have c1 : (w.alloc (.cells #[I id9, S cl, S su, .slice va sc.length vc, I cr, I us, I idl, I ab, I gr, I ge, I tk9, I st, I en, I co] 40)).cell? ⟨w.heap.size, 1, none⟩ = some (S cl) := cellr hT rfl
  have c2 : (w.alloc (.cells #[I id9, S cl, S su, .slice va sc.length vc, I cr, I us, I idl, I ab, I gr, I ge, I tk9, I st, I en, I co] 40)).cell? ⟨w.heap.size, 2, none⟩ = some (S su) := cellr hT rfl
  have c3 : (w.alloc (.cells #[I id9, S cl, S su, .slice va sc.length vc, I cr, I us, I idl, I ab, I gr, I ge, I tk9, I st, I en, I co] 40)).cell? ⟨w.heap.size, 3, none⟩ = some (.slice va sc.length vc) := cellr hT rfl
  have c4 : (w.alloc (.cells #[I id9, S cl, S su, .slice va sc.length vc, I cr, I us, I idl, I ab, I gr, I ge, I tk9, I st, I en, I co] 40)).cell? ⟨w.heap.size, 4, none⟩ = some (I cr) := cellr hT rfl
  have c5 : (w.alloc (.cells #[I id9, S cl, S su, .slice va sc.length vc, I cr, I us, I idl, I ab, I gr, I ge, I tk9, I st, I en, I co] 40)).cell? ⟨w.heap.size, 5, none⟩ = some (I us) := cellr hT rfl
  have c6 : (w.alloc (.cells #[I id9, S cl, S su, .slice va sc.length vc, I cr, I us, I idl, I ab, I gr, I ge, I tk9, I st, I en, I co] 40)).cell? ⟨w.heap.size, 6, none⟩ = some (I idl) := cellr hT rfl
  have c7 : (w.alloc (.cells #[I id9, S cl, S su, .slice va sc.length vc, I cr, I us, I idl, I ab, I gr, I ge, I tk9, I st, I en, I co] 40)).cell? ⟨w.heap.size, 7, none⟩ = some (I ab) := cellr hT rfl
  have c8 : (w.alloc (.cells #[I id9, S cl, S su, .slice va sc.length vc, I cr, I us, I idl, I ab, I gr, I ge, I tk9, I st, I en, I co] 40)).cell? ⟨w.heap.size, 8, none⟩ = some (I gr) := cellr hT rfl
  have c9 : (w.alloc (.cells #[I id9, S cl, S su, .slice va sc.length vc, I cr, I us, I idl, I ab, I gr, I ge, I tk9, I st, I en, I co] 40)).cell? ⟨w.heap.size, 9, none⟩ = some (I ge) := cellr hT rfl
  have c10 : (w.alloc (.cells #[I id9, S cl, S su, .slice va sc.length vc, I cr, I us, I idl, I ab, I gr, I ge, I tk9, I st, I en, I co] 40)).cell? ⟨w.heap.size, 10, none⟩ = some (I tk9) := cellr hT rfl
  have c11 : (w.alloc (.cells #[I id9, S cl, S su, .slice va sc.length vc, I cr, I us, I idl, I ab, I gr, I ge, I tk9, I st, I en, I co] 40)).cell? ⟨w.heap.size, 11, none⟩ = some (I st) := cellr hT rfl
  have c12 : (w.alloc (.cells #[I id9, S cl, S su, .slice va sc.length vc, I cr, I us, I idl, I ab, I gr, I ge, I tk9, I st, I en, I co] 40)).cell? ⟨w.heap.size, 12, none⟩ = some (I en) := cellr hT rfl
  have c13 : (w.alloc (.cells #[I id9, S cl, S su, .slice va sc.length vc, I cr, I us, I idl, I ab, I gr, I ge, I tk9, I st, I en, I co] 40)).cell? ⟨w.heap.size, 13, none⟩ = some (I co) := cellr hT rfl
  have XS := hide (rScope139 va sc.length vc sc (w.alloc (.cells #[I id9, S cl, S su, .slice va sc.length vc, I cr, I us, I idl, I ab, I gr, I ge, I tk9, I st, I en, I co] 40)) (hsc.bel hB0) hsl hln)
  generalize hW1 : (w.alloc (.cells #[I id9, S cl, S su, .slice va sc.length vc, I cr, I us, I idl, I ab, I gr, I ge, I tk9, I st, I en, I co] 40)) = W1 at *
  have HB := hide hB0
  have HT := hide hT
  clear hB0 hT hsc hsl hln
  have HKE := hide (famN id9 cl su sc cr us idl ab gr ge tk9 st en co)
  have HGA := hide (fgAN co)
  have HGB := hide (fgBN cr us idl ab)
  have HGC := hide (fgCN ge st)
  have HGD := hide (show fgD us st en = if st == 1 then en == 0 else decide (us ≤ en) from rfl)
  have XC0 := hide (fun W => rId_any id9 W)
  have XC1 := hide (fun W => rId_any tk9 W)
  have XC2 := hide (fun W => refName_any cl W hcl)
  have XC3 := hide (fun W => refName_any su W hsu)
  have XC5 := hide (fun W => rTime_any cr W)
  have XC6 := hide (fun W => rTime_any us W)
  have XC7 := hide (fun W => rTime_any gr W)
  have XC8 := hide (fun W => rTime_any en W)
  clear hcl hsu
  generalize famOK id9 cl su sc cr us idl ab gr ge tk9 st en co = R at *
  generalize fgA co = gA at *
  generalize fgB cr us idl ab = gB at *
  generalize fgC ge st = gC at *
  generalize fgD us st en = gD at *
  generalize idn id9 = b0 at *
  generalize idn tk9 = b1 at *
  generalize nm cl = b2 at *
  generalize nm su = b3 at *
  generalize right sc = b4 at *
  generalize tim cr = b5 at *
  generalize tim us = b6 at *
  generalize tim gr = b7 at *
  generalize tim en = b8 at *
  go_enter Tryz.func75, Tryz.ntmps75
  go_wp2_with fail
  refine (unhide XC0 W1).mono ?_
  rintro e w9 ⟨rfl, hw9⟩
  rw [hw9]
  clear hw9 w9 XC0
  go_wp2_with fail
  refine (unhide XC1 W1).mono ?_
  rintro e w9 ⟨rfl, hw9⟩
  rw [hw9]
  clear hw9 w9 XC1
  go_wp2_with fail
  refine (unhide XC2 W1).mono ?_
  rintro e w9 ⟨rfl, hw9⟩
  rw [hw9]
  clear hw9 w9 XC2
  go_wp2_with fail
  refine (unhide XC3 W1).mono ?_
  rintro e w9 ⟨rfl, hw9⟩
  rw [hw9]
  clear hw9 w9 XC3
  go_wp2_with fail
  refine (unhide XS).mono ?_
  rintro e W2 ⟨rfl, hb⟩
  have HB2 := hide ((unhide HB).trans (hb.mono (unhide HB).size))
  have HT2 := hide ((hb.block _ (lt_of_row (unhide HT))).trans (unhide HT))
  clear hb XS HB HT hW1 c0 c1 c2 c3 c4 c5 c6 c7 c8 c9 c10 c11 c12 c13
  have c0 : W2.cell? ⟨w.heap.size, 0, none⟩ = some (I id9) := cellr (unhide HT2) rfl
  have c1 : W2.cell? ⟨w.heap.size, 1, none⟩ = some (S cl) := cellr (unhide HT2) rfl
  have c2 : W2.cell? ⟨w.heap.size, 2, none⟩ = some (S su) := cellr (unhide HT2) rfl
  have c3 : W2.cell? ⟨w.heap.size, 3, none⟩ = some (.slice va sc.length vc) := cellr (unhide HT2) rfl
  have c4 : W2.cell? ⟨w.heap.size, 4, none⟩ = some (I cr) := cellr (unhide HT2) rfl
  have c5 : W2.cell? ⟨w.heap.size, 5, none⟩ = some (I us) := cellr (unhide HT2) rfl
  have c6 : W2.cell? ⟨w.heap.size, 6, none⟩ = some (I idl) := cellr (unhide HT2) rfl
  have c7 : W2.cell? ⟨w.heap.size, 7, none⟩ = some (I ab) := cellr (unhide HT2) rfl
  have c8 : W2.cell? ⟨w.heap.size, 8, none⟩ = some (I gr) := cellr (unhide HT2) rfl
  have c9 : W2.cell? ⟨w.heap.size, 9, none⟩ = some (I ge) := cellr (unhide HT2) rfl
  have c10 : W2.cell? ⟨w.heap.size, 10, none⟩ = some (I tk9) := cellr (unhide HT2) rfl
  have c11 : W2.cell? ⟨w.heap.size, 11, none⟩ = some (I st) := cellr (unhide HT2) rfl
  have c12 : W2.cell? ⟨w.heap.size, 12, none⟩ = some (I en) := cellr (unhide HT2) rfl
  have c13 : W2.cell? ⟨w.heap.size, 13, none⟩ = some (I co) := cellr (unhide HT2) rfl
  go_upto_region 6 with fail
  go_cut [54] from 27 to 54 (fun v wc => v = .bool (!(b0 && (b1 && (b2 && (b3 && (b4 && (gA))))))) ∧ wc = W2)
  case first =>
    clear HKE HB2 HT2 HGB HGC HGD XC5 XC6 XC7 XC8
    cases b0
    · clear HGA
      go_wp2
      go_meet
      exact ⟨rfl, rfl⟩
    cases b1
    · clear HGA
      go_wp2
      go_meet
      exact ⟨rfl, rfl⟩
    cases b2
    · clear HGA
      go_wp2
      go_meet
      exact ⟨rfl, rfl⟩
    cases b3
    · clear HGA
      go_wp2
      go_meet
      exact ⟨rfl, rfl⟩
    cases b4
    · clear HGA
      go_wp2
      go_meet
      exact ⟨rfl, rfl⟩
    by_cases h0 : co < 0
    · have HV := hide (show true = !gA by rw [unhide HGA]; simp [h0])
      clear HGA
      go_wp2
      go_meet
      exact ⟨congrArg Value.bool (unhide HV), rfl⟩
    by_cases h1 : 4611686018427387904 < co
    · have HV := hide (show true = !gA by rw [unhide HGA]; simp [h1])
      clear HGA
      go_wp2
      go_meet
      exact ⟨congrArg Value.bool (unhide HV), rfl⟩
    have HV := hide (show false = !gA by rw [unhide HGA]; simp [h0, h1])
    clear HGA
    go_wp2
    go_meet
    exact ⟨congrArg Value.bool (unhide HV), rfl⟩
  case rest =>
  obtain ⟨rfl, hwc⟩ := hcut
  rw [hwc]
  clear hwc HGA
  cases hc : (b0 && (b1 && (b2 && (b3 && (b4 && (gA))))))
  · have HR : Hid (R = false) := hide (by rw [unhide HKE, ← Bool.and_assoc b4, ← Bool.and_assoc b3, ← Bool.and_assoc b2, ← Bool.and_assoc b1, ← Bool.and_assoc b0, hc]; rfl)
    clear HKE hc HGB HGC HGD XC5 XC6 XC7 XC8
    go_wp2
    go_ret
    exact ⟨ret_bool (unhide HR).symm, unhide HB2⟩
  have HKE2 : Hid (R = (b5 && (b6 && (b7 && (b8 && (gB && (gC && gD))))))) := hide (by rw [unhide HKE, ← Bool.and_assoc b4, ← Bool.and_assoc b3, ← Bool.and_assoc b2, ← Bool.and_assoc b1, ← Bool.and_assoc b0, hc]; rfl)
  clear HKE hc
  have HKE := hide (unhide HKE2)
  clear HKE2
  go_wp2_with fail
  refine (unhide XC5 W2).mono ?_
  rintro e w9 ⟨rfl, hw9⟩
  rw [hw9]
  clear hw9 w9 XC5
  go_wp2_with fail
  refine (unhide XC6 W2).mono ?_
  rintro e w9 ⟨rfl, hw9⟩
  rw [hw9]
  clear hw9 w9 XC6
  go_wp2_with fail
  refine (unhide XC7 W2).mono ?_
  rintro e w9 ⟨rfl, hw9⟩
  rw [hw9]
  clear hw9 w9 XC7
  go_wp2_with fail
  refine (unhide XC8 W2).mono ?_
  rintro e w9 ⟨rfl, hw9⟩
  rw [hw9]
  clear hw9 w9 XC8
  go_upto_region 12 with fail
  go_cut [107] from 67 to 107 (fun v wc => v = .bool (!(b5 && (b6 && (b7 && (b8 && (gB)))))) ∧ wc = W2)
  case first =>
    clear HKE HB2 HT2 HGC HGD
    cases b5
    · clear HGB
      go_wp2
      go_meet
      exact ⟨rfl, rfl⟩
    cases b6
    · clear HGB
      go_wp2
      go_meet
      exact ⟨rfl, rfl⟩
    cases b7
    · clear HGB
      go_wp2
      go_meet
      exact ⟨rfl, rfl⟩
    cases b8
    · clear HGB
      go_wp2
      go_meet
      exact ⟨rfl, rfl⟩
    by_cases h0 : us < cr
    · have HV := hide (show true = !gB by rw [unhide HGB]; simp [h0])
      clear HGB
      go_wp2
      go_meet
      exact ⟨congrArg Value.bool (unhide HV), rfl⟩
    by_cases h1 : idl < 1
    · have HV := hide (show true = !gB by rw [unhide HGB]; simp [h1])
      clear HGB
      go_wp2
      go_meet
      exact ⟨congrArg Value.bool (unhide HV), rfl⟩
    by_cases h2 : 1099511627776 < idl
    · have HV := hide (show true = !gB by rw [unhide HGB]; simp [h2])
      clear HGB
      go_wp2
      go_meet
      exact ⟨congrArg Value.bool (unhide HV), rfl⟩
    by_cases h3 : ab < 1
    · have HV := hide (show true = !gB by rw [unhide HGB]; simp [h3])
      clear HGB
      go_wp2
      go_meet
      exact ⟨congrArg Value.bool (unhide HV), rfl⟩
    by_cases h4 : 1099511627776 < ab
    · have HV := hide (show true = !gB by rw [unhide HGB]; simp [h4])
      clear HGB
      go_wp2
      go_meet
      exact ⟨congrArg Value.bool (unhide HV), rfl⟩
    have HV := hide (show false = !gB by rw [unhide HGB]; simp [h0, h1, h2, h3, h4])
    clear HGB
    go_wp2
    go_meet
    exact ⟨congrArg Value.bool (unhide HV), rfl⟩
  case rest =>
  obtain ⟨rfl, hwc⟩ := hcut
  rw [hwc]
  clear hwc HGB
  cases hc : (b5 && (b6 && (b7 && (b8 && (gB)))))
  · have HR : Hid (R = false) := hide (by rw [unhide HKE, ← Bool.and_assoc b8, ← Bool.and_assoc b7, ← Bool.and_assoc b6, ← Bool.and_assoc b5, hc]; rfl)
    clear HKE hc HGC HGD
    go_wp2
    go_ret
    exact ⟨ret_bool (unhide HR).symm, unhide HB2⟩
  have HKE2 : Hid (R = (gC && gD)) := hide (by rw [unhide HKE, ← Bool.and_assoc b8, ← Bool.and_assoc b7, ← Bool.and_assoc b6, ← Bool.and_assoc b5, hc]; rfl)
  clear HKE hc
  have HKE := hide (unhide HKE2)
  clear HKE2
  go_upto_region 14 with fail
  go_cut [125] from 108 to 125 (fun v wc => v = .bool (!(gC)) ∧ wc = W2)
  case first =>
    clear HKE HB2 HT2 HGD
    by_cases h0 : ge < 1
    · have HV := hide (show true = !gC by rw [unhide HGC]; simp [h0])
      clear HGC
      go_wp2
      go_meet
      exact ⟨congrArg Value.bool (unhide HV), rfl⟩
    by_cases h1 : 1073741824 < ge
    · have HV := hide (show true = !gC by rw [unhide HGC]; simp [h1])
      clear HGC
      go_wp2
      go_meet
      exact ⟨congrArg Value.bool (unhide HV), rfl⟩
    by_cases h2 : st < 1
    · have HV := hide (show true = !gC by rw [unhide HGC]; simp [h2])
      clear HGC
      go_wp2
      go_meet
      exact ⟨congrArg Value.bool (unhide HV), rfl⟩
    by_cases h3 : 4 < st
    · have HV := hide (show true = !gC by rw [unhide HGC]; simp [h3])
      clear HGC
      go_wp2
      go_meet
      exact ⟨congrArg Value.bool (unhide HV), rfl⟩
    have HV := hide (show false = !gC by rw [unhide HGC]; simp [h0, h1, h2, h3])
    clear HGC
    go_wp2
    go_meet
    exact ⟨congrArg Value.bool (unhide HV), rfl⟩
  case rest =>
  obtain ⟨rfl, hwc⟩ := hcut
  rw [hwc]
  clear hwc HGC
  cases hc : (gC)
  · have HR : Hid (R = false) := hide (by rw [unhide HKE, hc]; rfl)
    clear HKE hc HGD
    go_wp2
    go_ret
    exact ⟨ret_bool (unhide HR).symm, unhide HB2⟩
  have HKE2 : Hid (R = gD) := hide (by rw [unhide HKE, hc]; rfl)
  clear HKE hc
  have HKE := hide (unhide HKE2)
  clear HKE2
  by_cases h1 : st = 1
  · subst h1
    by_cases h2 : en = 0
    · subst h2
      have HV := hide (show R = true by rw [unhide HKE, unhide HGD]; rfl)
      clear HKE HGD
      go_wp2
      go_ret
      exact ⟨ret_bool (unhide HV).symm, unhide HB2⟩
    · have g2 : (en == 0) = false := by simpa using h2
      have HV := hide (show R = false by rw [unhide HKE, unhide HGD, g2]; rfl)
      clear HKE HGD
      go_wp2
      go_ret
      exact ⟨ret_bool (unhide HV).symm, unhide HB2⟩
  · have g1 : (st == 1) = false := by simpa using h1
    have HV := hide (show R = decide (us ≤ en) by rw [unhide HKE, unhide HGD, g1]; rfl)
    clear HKE HGD
    go_wp2
    go_ret
    exact ⟨ret_bool (unhide HV).symm, unhide HB2⟩
end Go.Proofs.YtpidmpefodnffaaGreatDoor
namespace Go.Proofs.YtpidmpefodnffaaGreatDoor
open Go.RowKit Go.Lib
set_option maxHeartbeats 4000000
set_option maxRecDepth 8000
/-- As Rj, with what has come up ahead of what. -/
structure Rl (w : World) (X : Nat) (cx : Array Value) (tx : TypeId) (R : Nat) (cr : Array Value) (tr : TypeId) (D : List (Nat × Nat)) (c : Unit) (L : Nat → Bool) (W : World) : Prop where
  base : Rj w X cx tx R cr tr c L W
  dep : ∀ d, d ∈ D → L d.1 = true → L d.2 = true
section
variable {w : World} {X : Nat} {cx : Array Value} {tx : TypeId} {R : Nat} {cr : Array Value} {tr : TypeId} {D : List (Nat × Nat)} {c : Unit} {L : Nat → Bool} {W : World}
theorem Rl.link (h : Rl w X cx tx R cr tr D c L W) (i : Nat) (hi : ∀ d, d ∈ D → d.1 = i → L d.2 = true) : Rl w X cx tx R cr tr D c (upd L i) W := ⟨h.base.any _, fun d hd e => by
  rcases upd_or e with q | q
  · exact upd_tr (hi d hd q)
  · exact upd_tr (h.dep d hd q)⟩
theorem Rl.other (h : Rl w X cx tx R cr tr D c L W) (i : Nat) (hi : ∀ d, d ∈ D → d.1 ≠ i) : Rl w X cx tx R cr tr D c (upd L i) W := h.link i (fun d hd e => absurd e (hi d hd))
theorem Rl.call (h : Rl w X cx tx R cr tr D c L W) (i : Nat) (hi : ∀ d, d ∈ D → d.1 ≠ i) {W' : World} (hb : Below W.heap.size W W') : Rl w X cx tx R cr tr D c (upd L i) W' := ⟨h.base.call _ hb, (h.other i hi).dep⟩
end
def vrrf20a (X : Nat) (va : Option Addr) (vc : Nat) (cl : Bs) (su : Bs) (sc : List Bs) (cr : Int) (us : Int) (_c : Unit) (i : Nat) : Value := match i with
  | 0 => (.pointer (some ⟨X, 1, none⟩))
  | 1 => (S cl)
  | 2 => (S (be 1 cl.length ++ cl))
  | 3 => (.pointer (some ⟨X, 2, none⟩))
  | 4 => (S su)
  | 5 => (S (be 1 su.length ++ su))
  | 6 => (S (((be 1 cl.length ++ cl)) ++ ((be 1 su.length ++ su))))
  | 7 => (.pointer (some ⟨X, 3, none⟩))
  | 8 => (.slice va sc.length vc)
  | 9 => (S (tx sc))
  | 10 => (S (be 1 ((tx sc)).length ++ (tx sc)))
  | 11 => (S (((((be 1 cl.length ++ cl)) ++ ((be 1 su.length ++ su)))) ++ ((be 1 ((tx sc)).length ++ (tx sc)))))
  | 12 => (.pointer (some ⟨X, 4, none⟩))
  | 13 => (I cr)
  | 14 => (S (be 6 cr.toNat))
  | 15 => (S (((((((be 1 cl.length ++ cl)) ++ ((be 1 su.length ++ su)))) ++ ((be 1 ((tx sc)).length ++ (tx sc))))) ++ ((be 6 cr.toNat))))
  | 16 => (.pointer (some ⟨X, 5, none⟩))
  | 17 => (I us)
  | 18 => (S (be 6 us.toNat))
  | 19 => (S (((((((((be 1 cl.length ++ cl)) ++ ((be 1 su.length ++ su)))) ++ ((be 1 ((tx sc)).length ++ (tx sc))))) ++ ((be 6 cr.toNat)))) ++ ((be 6 us.toNat))))
  | 20 => (S (((((((((be 1 cl.length ++ cl)) ++ ((be 1 su.length ++ su)))) ++ ((be 1 ((tx sc)).length ++ (tx sc))))) ++ ((be 6 cr.toNat)))) ++ ((be 6 us.toNat))))
  | _ => undef
def rrf20aT : List (Op × Option Tmp × Option (Nat × Bool)) := [
  (.fieldAddr 40 (.tmp 1) 1, some 11, none),
  (.load 9 (.tmp 11), some 12, none),
  (.call { callee := .value (.func 64), args := #[(.tmp 12)], argTypes := #[9] }, some 13, none),
  (.fieldAddr 40 (.tmp 1) 2, some 14, none),
  (.load 9 (.tmp 14), some 15, none),
  (.call { callee := .value (.func 64), args := #[(.tmp 15)], argTypes := #[9] }, some 16, none),
  (.binOp .add 9 (.tmp 13) (.tmp 16) 9, some 17, none),
  (.fieldAddr 40 (.tmp 1) 3, some 18, none),
  (.load 22 (.tmp 18), some 19, none),
  (.call { callee := .value (.func 65), args := #[(.tmp 19)], argTypes := #[22] }, some 20, none),
  (.call { callee := .value (.func 64), args := #[(.tmp 20)], argTypes := #[9] }, some 21, none),
  (.binOp .add 9 (.tmp 17) (.tmp 21) 9, some 22, none),
  (.fieldAddr 40 (.tmp 1) 4, some 23, none),
  (.load 3 (.tmp 23), some 24, none),
  (.call { callee := .value (.func 62), args := #[(.tmp 24), (.const (I 6))], argTypes := #[3, 3] }, some 25, none),
  (.binOp .add 9 (.tmp 22) (.tmp 25) 9, some 26, none),
  (.fieldAddr 40 (.tmp 1) 5, some 27, none),
  (.load 3 (.tmp 27), some 28, none),
  (.call { callee := .value (.func 62), args := #[(.tmp 28), (.const (I 6))], argTypes := #[3, 3] }, some 29, none),
  (.binOp .add 9 (.tmp 26) (.tmp 29) 9, some 30, none),
  (.assign (.tmp 30), some 5, none)]
def rrf20aD : List (Nat × Nat) := [(1, 0), (2, 1), (4, 3), (5, 4), (6, 2), (6, 5), (8, 7), (9, 8), (10, 9), (11, 6), (11, 10), (13, 12), (14, 13), (15, 11), (15, 14), (17, 16), (18, 17), (19, 15), (19, 18), (20, 19)]
set_option maxHeartbeats 4000000 in
theorem rrf20a {ops : Array Oper} {id : Nat} {Q : Exit → Act → World → Prop} (X : Nat) (va : Option Addr) (vc : Nat) (cl : Bs) (su : Bs) (sc : List Bs) (cr : Int) (us : Int) (htab : ops.toList.map (fun o => (o.op, o.dst, o.guard)) = rrf20aT) (hdep : deplB rrf20aD ops = true) (hac : acB ops = true)
    (a0 : Act) (w : World) (hsz : 31 ≤ a0.tmps.size) (o1 : a0.tmps[1]? = some (.pointer (some ⟨X, 0, none⟩)))
    (Wd : Unit → (Nat → Bool) → World → Prop) (h0 : ∃ c, Wd c (fun _ => false) w.drew) (hpure : ∀ i, i ∉ ([2, 5, 9, 10, 14, 18] : List Nat) → ∀ c L W, Wd c L W → Wd c (upd L i) W)
    (r1 : ∀ c L W, Wd c L W → L 1 = false → L 0 = true → (Instr.loadAt 9 (.pointer (some ⟨X, 1, none⟩))).run Tryz.prog W = .ok (S cl) W)
    (r2 : ∀ c L W, Wd c L W → L 2 = false → L 1 = true → Calls Tryz.prog 64 #[(S cl)] W fun eg w' => ∃ c', (∀ j, L j = true → vrrf20a X va vc cl su sc cr us c' j = vrrf20a X va vc cl su sc cr us c j) ∧ eg = .returned (vrrf20a X va vc cl su sc cr us c' 2) ∧ Wd c' (upd L 2) w')
    (r4 : ∀ c L W, Wd c L W → L 4 = false → L 3 = true → (Instr.loadAt 9 (.pointer (some ⟨X, 2, none⟩))).run Tryz.prog W = .ok (S su) W)
    (r5 : ∀ c L W, Wd c L W → L 5 = false → L 4 = true → Calls Tryz.prog 64 #[(S su)] W fun eg w' => ∃ c', (∀ j, L j = true → vrrf20a X va vc cl su sc cr us c' j = vrrf20a X va vc cl su sc cr us c j) ∧ eg = .returned (vrrf20a X va vc cl su sc cr us c' 5) ∧ Wd c' (upd L 5) w')
    (r6 : ∀ W, (do eqGuard .add 9 (.tmp 13) (.tmp 16) (S (be 1 cl.length ++ cl)) (S (be 1 su.length ++ su)); binOp .add 9 (S (be 1 cl.length ++ cl)) (S (be 1 su.length ++ su))).run Tryz.prog W = .ok (S (((be 1 cl.length ++ cl)) ++ ((be 1 su.length ++ su)))) W)
    (r8 : ∀ c L W, Wd c L W → L 8 = false → L 7 = true → (Instr.loadAt 22 (.pointer (some ⟨X, 3, none⟩))).run Tryz.prog W = .ok (.slice va sc.length vc) W)
    (r9 : ∀ c L W, Wd c L W → L 9 = false → L 8 = true → Calls Tryz.prog 65 #[(.slice va sc.length vc)] W fun eg w' => ∃ c', (∀ j, L j = true → vrrf20a X va vc cl su sc cr us c' j = vrrf20a X va vc cl su sc cr us c j) ∧ eg = .returned (vrrf20a X va vc cl su sc cr us c' 9) ∧ Wd c' (upd L 9) w')
    (r10 : ∀ c L W, Wd c L W → L 10 = false → L 9 = true → Calls Tryz.prog 64 #[(S (tx sc))] W fun eg w' => ∃ c', (∀ j, L j = true → vrrf20a X va vc cl su sc cr us c' j = vrrf20a X va vc cl su sc cr us c j) ∧ eg = .returned (vrrf20a X va vc cl su sc cr us c' 10) ∧ Wd c' (upd L 10) w')
    (r11 : ∀ W, (do eqGuard .add 9 (.tmp 17) (.tmp 21) (S (((be 1 cl.length ++ cl)) ++ ((be 1 su.length ++ su)))) (S (be 1 ((tx sc)).length ++ (tx sc))); binOp .add 9 (S (((be 1 cl.length ++ cl)) ++ ((be 1 su.length ++ su)))) (S (be 1 ((tx sc)).length ++ (tx sc)))).run Tryz.prog W = .ok (S (((((be 1 cl.length ++ cl)) ++ ((be 1 su.length ++ su)))) ++ ((be 1 ((tx sc)).length ++ (tx sc))))) W)
    (r13 : ∀ c L W, Wd c L W → L 13 = false → L 12 = true → (Instr.loadAt 3 (.pointer (some ⟨X, 4, none⟩))).run Tryz.prog W = .ok (I cr) W)
    (r14 : ∀ c L W, Wd c L W → L 14 = false → L 13 = true → Calls Tryz.prog 62 #[(I cr), (I 6)] W fun eg w' => ∃ c', (∀ j, L j = true → vrrf20a X va vc cl su sc cr us c' j = vrrf20a X va vc cl su sc cr us c j) ∧ eg = .returned (vrrf20a X va vc cl su sc cr us c' 14) ∧ Wd c' (upd L 14) w')
    (r15 : ∀ W, (do eqGuard .add 9 (.tmp 22) (.tmp 25) (S (((((be 1 cl.length ++ cl)) ++ ((be 1 su.length ++ su)))) ++ ((be 1 ((tx sc)).length ++ (tx sc))))) (S (be 6 cr.toNat)); binOp .add 9 (S (((((be 1 cl.length ++ cl)) ++ ((be 1 su.length ++ su)))) ++ ((be 1 ((tx sc)).length ++ (tx sc))))) (S (be 6 cr.toNat))).run Tryz.prog W = .ok (S (((((((be 1 cl.length ++ cl)) ++ ((be 1 su.length ++ su)))) ++ ((be 1 ((tx sc)).length ++ (tx sc))))) ++ ((be 6 cr.toNat)))) W)
    (r17 : ∀ c L W, Wd c L W → L 17 = false → L 16 = true → (Instr.loadAt 3 (.pointer (some ⟨X, 5, none⟩))).run Tryz.prog W = .ok (I us) W)
    (r18 : ∀ c L W, Wd c L W → L 18 = false → L 17 = true → Calls Tryz.prog 62 #[(I us), (I 6)] W fun eg w' => ∃ c', (∀ j, L j = true → vrrf20a X va vc cl su sc cr us c' j = vrrf20a X va vc cl su sc cr us c j) ∧ eg = .returned (vrrf20a X va vc cl su sc cr us c' 18) ∧ Wd c' (upd L 18) w')
    (r19 : ∀ W, (do eqGuard .add 9 (.tmp 26) (.tmp 29) (S (((((((be 1 cl.length ++ cl)) ++ ((be 1 su.length ++ su)))) ++ ((be 1 ((tx sc)).length ++ (tx sc))))) ++ ((be 6 cr.toNat)))) (S (be 6 us.toNat)); binOp .add 9 (S (((((((be 1 cl.length ++ cl)) ++ ((be 1 su.length ++ su)))) ++ ((be 1 ((tx sc)).length ++ (tx sc))))) ++ ((be 6 cr.toNat)))) (S (be 6 us.toNat))).run Tryz.prog W = .ok (S (((((((((be 1 cl.length ++ cl)) ++ ((be 1 su.length ++ su)))) ++ ((be 1 ((tx sc)).length ++ (tx sc))))) ++ ((be 6 cr.toNat)))) ++ ((be 6 us.toNat)))) W)
    (hend : ∀ c L W, (∀ i, i < 21 → L i = true) → Wd c L W → Q .normal (((((((((((((((((((((a0.put (some 11) (.pointer (some ⟨X, 1, none⟩))).put (some 12) (S cl)).put (some 13) (S (be 1 cl.length ++ cl))).put (some 14) (.pointer (some ⟨X, 2, none⟩))).put (some 15) (S su)).put (some 16) (S (be 1 su.length ++ su))).put (some 17) (S (((be 1 cl.length ++ cl)) ++ ((be 1 su.length ++ su))))).put (some 18) (.pointer (some ⟨X, 3, none⟩))).put (some 19) (.slice va sc.length vc)).put (some 20) (S (tx sc))).put (some 21) (S (be 1 ((tx sc)).length ++ (tx sc)))).put (some 22) (S (((((be 1 cl.length ++ cl)) ++ ((be 1 su.length ++ su)))) ++ ((be 1 ((tx sc)).length ++ (tx sc)))))).put (some 23) (.pointer (some ⟨X, 4, none⟩))).put (some 24) (I cr)).put (some 25) (S (be 6 cr.toNat))).put (some 26) (S (((((((be 1 cl.length ++ cl)) ++ ((be 1 su.length ++ su)))) ++ ((be 1 ((tx sc)).length ++ (tx sc))))) ++ ((be 6 cr.toNat))))).put (some 27) (.pointer (some ⟨X, 5, none⟩))).put (some 28) (I us)).put (some 29) (S (be 6 us.toNat))).put (some 30) (S (((((((((be 1 cl.length ++ cl)) ++ ((be 1 su.length ++ su)))) ++ ((be 1 ((tx sc)).length ++ (tx sc))))) ++ ((be 6 cr.toNat)))) ++ ((be 6 us.toNat))))).put (some 5) (S (((((((((be 1 cl.length ++ cl)) ++ ((be 1 su.length ++ su)))) ++ ((be 1 ((tx sc)).length ++ (tx sc))))) ++ ((be 6 cr.toNat)))) ++ ((be 6 us.toNat))))) W) : (Code.region id ops true).wp Tryz.prog Q a0 w := by
  let val : Unit → Nat → Value := vrrf20a X va vc cl su sc cr us
  have hosz : ops.size = 21 := by
    have := congrArg List.length htab
    simpa [rrf20aT] using this
  have hds : ∀ i s, (rrf20aT[i]?).bind (·.2.1) = some s → dstOf ops i = some s := fun i s hi => by rw [tab_dst htab, hi]
  have hdisB : disL rrf20aT = true := by rfl
  have hdis := disL_of htab hdisB
  have hold : ∀ s, rrf20aT.all (fun x => !(x.2.1 == some s)) = true → (List.range ops.size).all (fun j => !(dstOf ops j == some s)) = true := fun s h => holdL htab s h
  refine region_detX val Wd (hac_of hac) hdis h0 ?_ ?_
  rotate_left
  · intro c L W hall hW
    have := hend c L W (by rw [← hosz]; exact hall) hW
    have e : frm ops a0 (val c) (fun _ => true) ops.size = (((((((((((((((((((((a0.put (some 11) (.pointer (some ⟨X, 1, none⟩))).put (some 12) (S cl)).put (some 13) (S (be 1 cl.length ++ cl))).put (some 14) (.pointer (some ⟨X, 2, none⟩))).put (some 15) (S su)).put (some 16) (S (be 1 su.length ++ su))).put (some 17) (S (((be 1 cl.length ++ cl)) ++ ((be 1 su.length ++ su))))).put (some 18) (.pointer (some ⟨X, 3, none⟩))).put (some 19) (.slice va sc.length vc)).put (some 20) (S (tx sc))).put (some 21) (S (be 1 ((tx sc)).length ++ (tx sc)))).put (some 22) (S (((((be 1 cl.length ++ cl)) ++ ((be 1 su.length ++ su)))) ++ ((be 1 ((tx sc)).length ++ (tx sc)))))).put (some 23) (.pointer (some ⟨X, 4, none⟩))).put (some 24) (I cr)).put (some 25) (S (be 6 cr.toNat))).put (some 26) (S (((((((be 1 cl.length ++ cl)) ++ ((be 1 su.length ++ su)))) ++ ((be 1 ((tx sc)).length ++ (tx sc))))) ++ ((be 6 cr.toNat))))).put (some 27) (.pointer (some ⟨X, 5, none⟩))).put (some 28) (I us)).put (some 29) (S (be 6 us.toNat))).put (some 30) (S (((((((((be 1 cl.length ++ cl)) ++ ((be 1 su.length ++ su)))) ++ ((be 1 ((tx sc)).length ++ (tx sc))))) ++ ((be 6 cr.toNat)))) ++ ((be 6 us.toNat))))).put (some 5) (S (((((((((be 1 cl.length ++ cl)) ++ ((be 1 su.length ++ su)))) ++ ((be 1 ((tx sc)).length ++ (tx sc))))) ++ ((be 6 cr.toNat)))) ++ ((be 6 us.toNat))))) := by
      rw [hosz]
      simp only [frm, if_true]
      rw [tab_dst htab 0, tab_dst htab 1, tab_dst htab 2, tab_dst htab 3, tab_dst htab 4, tab_dst htab 5, tab_dst htab 6, tab_dst htab 7, tab_dst htab 8, tab_dst htab 9, tab_dst htab 10, tab_dst htab 11, tab_dst htab 12, tab_dst htab 13, tab_dst htab 14, tab_dst htab 15, tab_dst htab 16, tab_dst htab 17, tab_dst htab 18, tab_dst htab 19, tab_dst htab 20]
      rfl
    rw [e]
    exact this
  intro i o ho c L a w' hL hd ha hW
  have hi : i < 21 := by rw [← hosz]; exact (Array.getElem?_eq_some_iff.1 ho).1
  have G : ∀ j s : Nat, (rrf20aT[j]?).bind (·.2.1) = some s → s < 31 → (i, j) ∈ rrf20aD → a.tmps[s]? = some (val c j) := fun j s h1 h2 h3 => frm_at hdis ha j s (hds j s h1) (by omega) (depl_of hdep i j h3 ho hd)
  match i, ho, hL, hi, G with
  | 0, ho, hL, _, G =>
    obtain ⟨hop, hgd⟩ := tab3 htab ho rfl
    have h0 := frm_old ha 1 _ (hold 1 rfl) o1
    exact (dXr ho hgd (hpure 0 (by decide) c L w' hW) (g_field hop (eval_of h0) (by kernel_rfl)))
  | 1, ho, hL, _, G =>
    obtain ⟨hop, hgd⟩ := tab3 htab ho rfl
    have h0 := G 0 11 rfl (by decide) (by decide)
    exact (dXr ho hgd (hpure 1 (by decide) c L w' hW) (g_load hop (eval_of h0) (r1 c L w' hW hL (depl_of hdep 1 0 (by decide) ho hd))))
  | 2, ho, hL, _, G =>
    obtain ⟨hop, hgd⟩ := tab3 htab ho rfl
    have h0 := G 1 12 rfl (by decide) (by decide)
    refine doesX_call ho (wanted_none hgd) 64 #[(S cl)] ?_ (r2 c L w' hW hL (depl_of hdep 2 1 (by decide) ho hd))
    rw [run_calls Tryz.func64 (by kernel_rfl) rfl _ _ _ _ hop rfl]
    simp only [List.map_toArray, List.map_cons, List.map_nil, eval_of h0]
    all_goals rfl
  | 3, ho, hL, _, G =>
    obtain ⟨hop, hgd⟩ := tab3 htab ho rfl
    have h0 := frm_old ha 1 _ (hold 1 rfl) o1
    exact (dXr ho hgd (hpure 3 (by decide) c L w' hW) (g_field hop (eval_of h0) (by kernel_rfl)))
  | 4, ho, hL, _, G =>
    obtain ⟨hop, hgd⟩ := tab3 htab ho rfl
    have h0 := G 3 14 rfl (by decide) (by decide)
    exact (dXr ho hgd (hpure 4 (by decide) c L w' hW) (g_load hop (eval_of h0) (r4 c L w' hW hL (depl_of hdep 4 3 (by decide) ho hd))))
  | 5, ho, hL, _, G =>
    obtain ⟨hop, hgd⟩ := tab3 htab ho rfl
    have h0 := G 4 15 rfl (by decide) (by decide)
    refine doesX_call ho (wanted_none hgd) 64 #[(S su)] ?_ (r5 c L w' hW hL (depl_of hdep 5 4 (by decide) ho hd))
    rw [run_calls Tryz.func64 (by kernel_rfl) rfl _ _ _ _ hop rfl]
    simp only [List.map_toArray, List.map_cons, List.map_nil, eval_of h0]
    all_goals rfl
  | 6, ho, hL, _, G =>
    obtain ⟨hop, hgd⟩ := tab3 htab ho rfl
    have h0 := G 2 13 rfl (by decide) (by decide)
    have h1 := G 5 16 rfl (by decide) (by decide)
    exact (dXr ho hgd (hpure 6 (by decide) c L w' hW) (g_bin hop (eval_of h0) (eval_of h1) (r6 w')))
  | 7, ho, hL, _, G =>
    obtain ⟨hop, hgd⟩ := tab3 htab ho rfl
    have h0 := frm_old ha 1 _ (hold 1 rfl) o1
    exact (dXr ho hgd (hpure 7 (by decide) c L w' hW) (g_field hop (eval_of h0) (by kernel_rfl)))
  | 8, ho, hL, _, G =>
    obtain ⟨hop, hgd⟩ := tab3 htab ho rfl
    have h0 := G 7 18 rfl (by decide) (by decide)
    exact (dXr ho hgd (hpure 8 (by decide) c L w' hW) (g_load hop (eval_of h0) (r8 c L w' hW hL (depl_of hdep 8 7 (by decide) ho hd))))
  | 9, ho, hL, _, G =>
    obtain ⟨hop, hgd⟩ := tab3 htab ho rfl
    have h0 := G 8 19 rfl (by decide) (by decide)
    refine doesX_call ho (wanted_none hgd) 65 #[(.slice va sc.length vc)] ?_ (r9 c L w' hW hL (depl_of hdep 9 8 (by decide) ho hd))
    rw [run_calls Tryz.func65 (by kernel_rfl) rfl _ _ _ _ hop rfl]
    simp only [List.map_toArray, List.map_cons, List.map_nil, eval_of h0]
    all_goals rfl
  | 10, ho, hL, _, G =>
    obtain ⟨hop, hgd⟩ := tab3 htab ho rfl
    have h0 := G 9 20 rfl (by decide) (by decide)
    refine doesX_call ho (wanted_none hgd) 64 #[(S (tx sc))] ?_ (r10 c L w' hW hL (depl_of hdep 10 9 (by decide) ho hd))
    rw [run_calls Tryz.func64 (by kernel_rfl) rfl _ _ _ _ hop rfl]
    simp only [List.map_toArray, List.map_cons, List.map_nil, eval_of h0]
    all_goals rfl
  | 11, ho, hL, _, G =>
    obtain ⟨hop, hgd⟩ := tab3 htab ho rfl
    have h0 := G 6 17 rfl (by decide) (by decide)
    have h1 := G 10 21 rfl (by decide) (by decide)
    exact (dXr ho hgd (hpure 11 (by decide) c L w' hW) (g_bin hop (eval_of h0) (eval_of h1) (r11 w')))
  | 12, ho, hL, _, G =>
    obtain ⟨hop, hgd⟩ := tab3 htab ho rfl
    have h0 := frm_old ha 1 _ (hold 1 rfl) o1
    exact (dXr ho hgd (hpure 12 (by decide) c L w' hW) (g_field hop (eval_of h0) (by kernel_rfl)))
  | 13, ho, hL, _, G =>
    obtain ⟨hop, hgd⟩ := tab3 htab ho rfl
    have h0 := G 12 23 rfl (by decide) (by decide)
    exact (dXr ho hgd (hpure 13 (by decide) c L w' hW) (g_load hop (eval_of h0) (r13 c L w' hW hL (depl_of hdep 13 12 (by decide) ho hd))))
  | 14, ho, hL, _, G =>
    obtain ⟨hop, hgd⟩ := tab3 htab ho rfl
    have h0 := G 13 24 rfl (by decide) (by decide)
    refine doesX_call ho (wanted_none hgd) 62 #[(I cr), (I 6)] ?_ (r14 c L w' hW hL (depl_of hdep 14 13 (by decide) ho hd))
    rw [run_calls Tryz.func62 (by kernel_rfl) rfl _ _ _ _ hop rfl]
    simp only [List.map_toArray, List.map_cons, List.map_nil, eval_of h0]
    all_goals rfl
  | 15, ho, hL, _, G =>
    obtain ⟨hop, hgd⟩ := tab3 htab ho rfl
    have h0 := G 11 22 rfl (by decide) (by decide)
    have h1 := G 14 25 rfl (by decide) (by decide)
    exact (dXr ho hgd (hpure 15 (by decide) c L w' hW) (g_bin hop (eval_of h0) (eval_of h1) (r15 w')))
  | 16, ho, hL, _, G =>
    obtain ⟨hop, hgd⟩ := tab3 htab ho rfl
    have h0 := frm_old ha 1 _ (hold 1 rfl) o1
    exact (dXr ho hgd (hpure 16 (by decide) c L w' hW) (g_field hop (eval_of h0) (by kernel_rfl)))
  | 17, ho, hL, _, G =>
    obtain ⟨hop, hgd⟩ := tab3 htab ho rfl
    have h0 := G 16 27 rfl (by decide) (by decide)
    exact (dXr ho hgd (hpure 17 (by decide) c L w' hW) (g_load hop (eval_of h0) (r17 c L w' hW hL (depl_of hdep 17 16 (by decide) ho hd))))
  | 18, ho, hL, _, G =>
    obtain ⟨hop, hgd⟩ := tab3 htab ho rfl
    have h0 := G 17 28 rfl (by decide) (by decide)
    refine doesX_call ho (wanted_none hgd) 62 #[(I us), (I 6)] ?_ (r18 c L w' hW hL (depl_of hdep 18 17 (by decide) ho hd))
    rw [run_calls Tryz.func62 (by kernel_rfl) rfl _ _ _ _ hop rfl]
    simp only [List.map_toArray, List.map_cons, List.map_nil, eval_of h0]
    all_goals rfl
  | 19, ho, hL, _, G =>
    obtain ⟨hop, hgd⟩ := tab3 htab ho rfl
    have h0 := G 15 26 rfl (by decide) (by decide)
    have h1 := G 18 29 rfl (by decide) (by decide)
    exact (dXr ho hgd (hpure 19 (by decide) c L w' hW) (g_bin hop (eval_of h0) (eval_of h1) (r19 w')))
  | 20, ho, hL, _, G =>
    obtain ⟨hop, hgd⟩ := tab3 htab ho rfl
    have h0 := G 19 30 rfl (by decide) (by decide)
    exact (dXr ho hgd (hpure 20 (by decide) c L w' hW) (by rw [run_assign _ _ _ hop]; exact congrArg (fun v => Result.ok (Next.value v) w') (eval_of h0)))
  | (i + 21), ho, hL, hi, _ => exact absurd hi (by omega)
def vrrf20b (X : Nat) (idl : Int) (ab : Int) (gr : Int) (ge : Int) (tk9 : Int) (st : Int) (en : Int) (co : Int) (v5 : Bs) (_c : Unit) (i : Nat) : Value := match i with
  | 0 => (S v5)
  | 1 => (.pointer (some ⟨X, 6, none⟩))
  | 2 => (I idl)
  | 3 => (S (be 6 idl.toNat))
  | 4 => (S (v5 ++ ((be 6 idl.toNat))))
  | 5 => (.pointer (some ⟨X, 7, none⟩))
  | 6 => (I ab)
  | 7 => (S (be 6 ab.toNat))
  | 8 => (S (((v5 ++ ((be 6 idl.toNat)))) ++ ((be 6 ab.toNat))))
  | 9 => (.pointer (some ⟨X, 8, none⟩))
  | 10 => (I gr)
  | 11 => (S (be 6 gr.toNat))
  | 12 => (S (((((v5 ++ ((be 6 idl.toNat)))) ++ ((be 6 ab.toNat)))) ++ ((be 6 gr.toNat))))
  | 13 => (.pointer (some ⟨X, 9, none⟩))
  | 14 => (I ge)
  | 15 => (S (be 4 ge.toNat))
  | 16 => (S (((((((v5 ++ ((be 6 idl.toNat)))) ++ ((be 6 ab.toNat)))) ++ ((be 6 gr.toNat)))) ++ ((be 4 ge.toNat))))
  | 17 => (.pointer (some ⟨X, 10, none⟩))
  | 18 => (I tk9)
  | 19 => (S (be 8 tk9.toNat))
  | 20 => (S (((((((((v5 ++ ((be 6 idl.toNat)))) ++ ((be 6 ab.toNat)))) ++ ((be 6 gr.toNat)))) ++ ((be 4 ge.toNat)))) ++ ((be 8 tk9.toNat))))
  | 21 => (.pointer (some ⟨X, 11, none⟩))
  | 22 => (I st)
  | 23 => (S (be 1 st.toNat))
  | 24 => (S (((((((((((v5 ++ ((be 6 idl.toNat)))) ++ ((be 6 ab.toNat)))) ++ ((be 6 gr.toNat)))) ++ ((be 4 ge.toNat)))) ++ ((be 8 tk9.toNat)))) ++ ((be 1 st.toNat))))
  | 25 => (.pointer (some ⟨X, 12, none⟩))
  | 26 => (I en)
  | 27 => (S (be 6 en.toNat))
  | 28 => (S (((((((((((((v5 ++ ((be 6 idl.toNat)))) ++ ((be 6 ab.toNat)))) ++ ((be 6 gr.toNat)))) ++ ((be 4 ge.toNat)))) ++ ((be 8 tk9.toNat)))) ++ ((be 1 st.toNat)))) ++ ((be 6 en.toNat))))
  | 29 => (.pointer (some ⟨X, 13, none⟩))
  | 30 => (I co)
  | 31 => (S (be 8 co.toNat))
  | 32 => (S (((((((((((((((v5 ++ ((be 6 idl.toNat)))) ++ ((be 6 ab.toNat)))) ++ ((be 6 gr.toNat)))) ++ ((be 4 ge.toNat)))) ++ ((be 8 tk9.toNat)))) ++ ((be 1 st.toNat)))) ++ ((be 6 en.toNat)))) ++ ((be 8 co.toNat))))
  | 33 => (S (((((((((((((((v5 ++ ((be 6 idl.toNat)))) ++ ((be 6 ab.toNat)))) ++ ((be 6 gr.toNat)))) ++ ((be 4 ge.toNat)))) ++ ((be 8 tk9.toNat)))) ++ ((be 1 st.toNat)))) ++ ((be 6 en.toNat)))) ++ ((be 8 co.toNat))))
  | _ => undef
def rrf20bT : List (Op × Option Tmp × Option (Nat × Bool)) := [
  (.move (.tmp 5), some 31, none),
  (.fieldAddr 40 (.tmp 1) 6, some 32, none),
  (.load 3 (.tmp 32), some 33, none),
  (.call { callee := .value (.func 62), args := #[(.tmp 33), (.const (I 6))], argTypes := #[3, 3] }, some 34, none),
  (.binOp .add 9 (.tmp 31) (.tmp 34) 9, some 35, none),
  (.fieldAddr 40 (.tmp 1) 7, some 36, none),
  (.load 3 (.tmp 36), some 37, none),
  (.call { callee := .value (.func 62), args := #[(.tmp 37), (.const (I 6))], argTypes := #[3, 3] }, some 38, none),
  (.binOp .add 9 (.tmp 35) (.tmp 38) 9, some 39, none),
  (.fieldAddr 40 (.tmp 1) 8, some 40, none),
  (.load 3 (.tmp 40), some 41, none),
  (.call { callee := .value (.func 62), args := #[(.tmp 41), (.const (I 6))], argTypes := #[3, 3] }, some 42, none),
  (.binOp .add 9 (.tmp 39) (.tmp 42) 9, some 43, none),
  (.fieldAddr 40 (.tmp 1) 9, some 44, none),
  (.load 3 (.tmp 44), some 45, none),
  (.call { callee := .value (.func 62), args := #[(.tmp 45), (.const (I 4))], argTypes := #[3, 3] }, some 46, none),
  (.binOp .add 9 (.tmp 43) (.tmp 46) 9, some 47, none),
  (.fieldAddr 40 (.tmp 1) 10, some 48, none),
  (.load 3 (.tmp 48), some 49, none),
  (.call { callee := .value (.func 62), args := #[(.tmp 49), (.const (I 8))], argTypes := #[3, 3] }, some 50, none),
  (.binOp .add 9 (.tmp 47) (.tmp 50) 9, some 51, none),
  (.fieldAddr 40 (.tmp 1) 11, some 52, none),
  (.load 3 (.tmp 52), some 53, none),
  (.call { callee := .value (.func 62), args := #[(.tmp 53), (.const (I 1))], argTypes := #[3, 3] }, some 54, none),
  (.binOp .add 9 (.tmp 51) (.tmp 54) 9, some 55, none),
  (.fieldAddr 40 (.tmp 1) 12, some 56, none),
  (.load 3 (.tmp 56), some 57, none),
  (.call { callee := .value (.func 62), args := #[(.tmp 57), (.const (I 6))], argTypes := #[3, 3] }, some 58, none),
  (.binOp .add 9 (.tmp 55) (.tmp 58) 9, some 59, none),
  (.fieldAddr 40 (.tmp 1) 13, some 60, none),
  (.load 3 (.tmp 60), some 61, none),
  (.call { callee := .value (.func 62), args := #[(.tmp 61), (.const (I 8))], argTypes := #[3, 3] }, some 62, none),
  (.binOp .add 9 (.tmp 59) (.tmp 62) 9, some 63, none),
  (.assign (.tmp 63), some 5, none)]
def crrf20b (a0 : Act) (X : Nat) (idl : Int) (ab : Int) (gr : Int) (ge : Int) (tk9 : Int) (st : Int) (en : Int) (co : Int) (v5 : Bs) (_c : Unit) : Act := ((((((((((((((((((((((((((((((((((a0.put (some 31) (S v5)).put (some 32) (.pointer (some ⟨X, 6, none⟩))).put (some 33) (I idl)).put (some 34) (S (be 6 idl.toNat))).put (some 35) (S (v5 ++ ((be 6 idl.toNat))))).put (some 36) (.pointer (some ⟨X, 7, none⟩))).put (some 37) (I ab)).put (some 38) (S (be 6 ab.toNat))).put (some 39) (S (((v5 ++ ((be 6 idl.toNat)))) ++ ((be 6 ab.toNat))))).put (some 40) (.pointer (some ⟨X, 8, none⟩))).put (some 41) (I gr)).put (some 42) (S (be 6 gr.toNat))).put (some 43) (S (((((v5 ++ ((be 6 idl.toNat)))) ++ ((be 6 ab.toNat)))) ++ ((be 6 gr.toNat))))).put (some 44) (.pointer (some ⟨X, 9, none⟩))).put (some 45) (I ge)).put (some 46) (S (be 4 ge.toNat))).put (some 47) (S (((((((v5 ++ ((be 6 idl.toNat)))) ++ ((be 6 ab.toNat)))) ++ ((be 6 gr.toNat)))) ++ ((be 4 ge.toNat))))).put (some 48) (.pointer (some ⟨X, 10, none⟩))).put (some 49) (I tk9)).put (some 50) (S (be 8 tk9.toNat))).put (some 51) (S (((((((((v5 ++ ((be 6 idl.toNat)))) ++ ((be 6 ab.toNat)))) ++ ((be 6 gr.toNat)))) ++ ((be 4 ge.toNat)))) ++ ((be 8 tk9.toNat))))).put (some 52) (.pointer (some ⟨X, 11, none⟩))).put (some 53) (I st)).put (some 54) (S (be 1 st.toNat))).put (some 55) (S (((((((((((v5 ++ ((be 6 idl.toNat)))) ++ ((be 6 ab.toNat)))) ++ ((be 6 gr.toNat)))) ++ ((be 4 ge.toNat)))) ++ ((be 8 tk9.toNat)))) ++ ((be 1 st.toNat))))).put (some 56) (.pointer (some ⟨X, 12, none⟩))).put (some 57) (I en)).put (some 58) (S (be 6 en.toNat))).put (some 59) (S (((((((((((((v5 ++ ((be 6 idl.toNat)))) ++ ((be 6 ab.toNat)))) ++ ((be 6 gr.toNat)))) ++ ((be 4 ge.toNat)))) ++ ((be 8 tk9.toNat)))) ++ ((be 1 st.toNat)))) ++ ((be 6 en.toNat))))).put (some 60) (.pointer (some ⟨X, 13, none⟩))).put (some 61) (I co)).put (some 62) (S (be 8 co.toNat))).put (some 63) (S (((((((((((((((v5 ++ ((be 6 idl.toNat)))) ++ ((be 6 ab.toNat)))) ++ ((be 6 gr.toNat)))) ++ ((be 4 ge.toNat)))) ++ ((be 8 tk9.toNat)))) ++ ((be 1 st.toNat)))) ++ ((be 6 en.toNat)))) ++ ((be 8 co.toNat))))).put (some 5) (S (((((((((((((((v5 ++ ((be 6 idl.toNat)))) ++ ((be 6 ab.toNat)))) ++ ((be 6 gr.toNat)))) ++ ((be 4 ge.toNat)))) ++ ((be 8 tk9.toNat)))) ++ ((be 1 st.toNat)))) ++ ((be 6 en.toNat)))) ++ ((be 8 co.toNat)))))
def rrf20bD : List (Nat × Nat) := [(2, 1), (3, 2), (4, 0), (4, 3), (6, 5), (7, 6), (8, 4), (8, 7), (10, 9), (11, 10), (12, 8), (12, 11), (14, 13), (15, 14), (16, 12), (16, 15), (18, 17), (19, 18), (20, 16), (20, 19), (22, 21), (23, 22), (24, 20), (24, 23), (26, 25), (27, 26), (28, 24), (28, 27), (30, 29), (31, 30), (32, 28), (32, 31), (33, 32)]
set_option maxHeartbeats 4000000 in
theorem rrf20b {ops : Array Oper} {id : Nat} {Q : Exit → Act → World → Prop} (X : Nat) (idl : Int) (ab : Int) (gr : Int) (ge : Int) (tk9 : Int) (st : Int) (en : Int) (co : Int) (v5 : Bs) (htab : ops.toList.map (fun o => (o.op, o.dst, o.guard)) = rrf20bT) (hdep : deplB rrf20bD ops = true) (hac : acB ops = true)
    (a0 : Act) (w : World) (hsz : 64 ≤ a0.tmps.size) (o1 : a0.tmps[1]? = some (.pointer (some ⟨X, 0, none⟩))) (o5 : a0.tmps[5]? = some (S v5))
    (Wd : Unit → (Nat → Bool) → World → Prop) (h0 : ∃ c, Wd c (fun _ => false) w.drew) (hpure : ∀ i, i ∉ ([3, 4, 7, 8, 11, 12, 15, 16, 19, 20, 23, 24, 27, 28, 31, 32, 33] : List Nat) → ∀ c L W, Wd c L W → Wd c (upd L i) W)
    (e0 : ∀ c L W, Wd c L W → L 0 = false → L 33 = false)
    (r2 : ∀ c L W, Wd c L W → L 2 = false → L 1 = true → (Instr.loadAt 3 (.pointer (some ⟨X, 6, none⟩))).run Tryz.prog W = .ok (I idl) W)
    (r3 : ∀ c L W, Wd c L W → L 3 = false → L 2 = true → Calls Tryz.prog 62 #[(I idl), (I 6)] W fun eg w' => ∃ c', (∀ j, L j = true → vrrf20b X idl ab gr ge tk9 st en co v5 c' j = vrrf20b X idl ab gr ge tk9 st en co v5 c j) ∧ eg = .returned (vrrf20b X idl ab gr ge tk9 st en co v5 c' 3) ∧ Wd c' (upd L 3) w')
    (r4 : ∀ W, (do eqGuard .add 9 (.tmp 31) (.tmp 34) (S v5) (S (be 6 idl.toNat)); binOp .add 9 (S v5) (S (be 6 idl.toNat))).run Tryz.prog W = .ok (S (v5 ++ ((be 6 idl.toNat)))) W)
    (e4 : ∀ c L W, Wd c L W → L 4 = false → L 0 = true → L 3 = true → Wd c (upd L 4) W)
    (r6 : ∀ c L W, Wd c L W → L 6 = false → L 5 = true → (Instr.loadAt 3 (.pointer (some ⟨X, 7, none⟩))).run Tryz.prog W = .ok (I ab) W)
    (r7 : ∀ c L W, Wd c L W → L 7 = false → L 6 = true → Calls Tryz.prog 62 #[(I ab), (I 6)] W fun eg w' => ∃ c', (∀ j, L j = true → vrrf20b X idl ab gr ge tk9 st en co v5 c' j = vrrf20b X idl ab gr ge tk9 st en co v5 c j) ∧ eg = .returned (vrrf20b X idl ab gr ge tk9 st en co v5 c' 7) ∧ Wd c' (upd L 7) w')
    (r8 : ∀ W, (do eqGuard .add 9 (.tmp 35) (.tmp 38) (S (v5 ++ ((be 6 idl.toNat)))) (S (be 6 ab.toNat)); binOp .add 9 (S (v5 ++ ((be 6 idl.toNat)))) (S (be 6 ab.toNat))).run Tryz.prog W = .ok (S (((v5 ++ ((be 6 idl.toNat)))) ++ ((be 6 ab.toNat)))) W)
    (e8 : ∀ c L W, Wd c L W → L 8 = false → L 4 = true → L 7 = true → Wd c (upd L 8) W)
    (r10 : ∀ c L W, Wd c L W → L 10 = false → L 9 = true → (Instr.loadAt 3 (.pointer (some ⟨X, 8, none⟩))).run Tryz.prog W = .ok (I gr) W)
    (r11 : ∀ c L W, Wd c L W → L 11 = false → L 10 = true → Calls Tryz.prog 62 #[(I gr), (I 6)] W fun eg w' => ∃ c', (∀ j, L j = true → vrrf20b X idl ab gr ge tk9 st en co v5 c' j = vrrf20b X idl ab gr ge tk9 st en co v5 c j) ∧ eg = .returned (vrrf20b X idl ab gr ge tk9 st en co v5 c' 11) ∧ Wd c' (upd L 11) w')
    (r12 : ∀ W, (do eqGuard .add 9 (.tmp 39) (.tmp 42) (S (((v5 ++ ((be 6 idl.toNat)))) ++ ((be 6 ab.toNat)))) (S (be 6 gr.toNat)); binOp .add 9 (S (((v5 ++ ((be 6 idl.toNat)))) ++ ((be 6 ab.toNat)))) (S (be 6 gr.toNat))).run Tryz.prog W = .ok (S (((((v5 ++ ((be 6 idl.toNat)))) ++ ((be 6 ab.toNat)))) ++ ((be 6 gr.toNat)))) W)
    (e12 : ∀ c L W, Wd c L W → L 12 = false → L 8 = true → L 11 = true → Wd c (upd L 12) W)
    (r14 : ∀ c L W, Wd c L W → L 14 = false → L 13 = true → (Instr.loadAt 3 (.pointer (some ⟨X, 9, none⟩))).run Tryz.prog W = .ok (I ge) W)
    (r15 : ∀ c L W, Wd c L W → L 15 = false → L 14 = true → Calls Tryz.prog 62 #[(I ge), (I 4)] W fun eg w' => ∃ c', (∀ j, L j = true → vrrf20b X idl ab gr ge tk9 st en co v5 c' j = vrrf20b X idl ab gr ge tk9 st en co v5 c j) ∧ eg = .returned (vrrf20b X idl ab gr ge tk9 st en co v5 c' 15) ∧ Wd c' (upd L 15) w')
    (r16 : ∀ W, (do eqGuard .add 9 (.tmp 43) (.tmp 46) (S (((((v5 ++ ((be 6 idl.toNat)))) ++ ((be 6 ab.toNat)))) ++ ((be 6 gr.toNat)))) (S (be 4 ge.toNat)); binOp .add 9 (S (((((v5 ++ ((be 6 idl.toNat)))) ++ ((be 6 ab.toNat)))) ++ ((be 6 gr.toNat)))) (S (be 4 ge.toNat))).run Tryz.prog W = .ok (S (((((((v5 ++ ((be 6 idl.toNat)))) ++ ((be 6 ab.toNat)))) ++ ((be 6 gr.toNat)))) ++ ((be 4 ge.toNat)))) W)
    (e16 : ∀ c L W, Wd c L W → L 16 = false → L 12 = true → L 15 = true → Wd c (upd L 16) W)
    (r18 : ∀ c L W, Wd c L W → L 18 = false → L 17 = true → (Instr.loadAt 3 (.pointer (some ⟨X, 10, none⟩))).run Tryz.prog W = .ok (I tk9) W)
    (r19 : ∀ c L W, Wd c L W → L 19 = false → L 18 = true → Calls Tryz.prog 62 #[(I tk9), (I 8)] W fun eg w' => ∃ c', (∀ j, L j = true → vrrf20b X idl ab gr ge tk9 st en co v5 c' j = vrrf20b X idl ab gr ge tk9 st en co v5 c j) ∧ eg = .returned (vrrf20b X idl ab gr ge tk9 st en co v5 c' 19) ∧ Wd c' (upd L 19) w')
    (r20 : ∀ W, (do eqGuard .add 9 (.tmp 47) (.tmp 50) (S (((((((v5 ++ ((be 6 idl.toNat)))) ++ ((be 6 ab.toNat)))) ++ ((be 6 gr.toNat)))) ++ ((be 4 ge.toNat)))) (S (be 8 tk9.toNat)); binOp .add 9 (S (((((((v5 ++ ((be 6 idl.toNat)))) ++ ((be 6 ab.toNat)))) ++ ((be 6 gr.toNat)))) ++ ((be 4 ge.toNat)))) (S (be 8 tk9.toNat))).run Tryz.prog W = .ok (S (((((((((v5 ++ ((be 6 idl.toNat)))) ++ ((be 6 ab.toNat)))) ++ ((be 6 gr.toNat)))) ++ ((be 4 ge.toNat)))) ++ ((be 8 tk9.toNat)))) W)
    (e20 : ∀ c L W, Wd c L W → L 20 = false → L 16 = true → L 19 = true → Wd c (upd L 20) W)
    (r22 : ∀ c L W, Wd c L W → L 22 = false → L 21 = true → (Instr.loadAt 3 (.pointer (some ⟨X, 11, none⟩))).run Tryz.prog W = .ok (I st) W)
    (r23 : ∀ c L W, Wd c L W → L 23 = false → L 22 = true → Calls Tryz.prog 62 #[(I st), (I 1)] W fun eg w' => ∃ c', (∀ j, L j = true → vrrf20b X idl ab gr ge tk9 st en co v5 c' j = vrrf20b X idl ab gr ge tk9 st en co v5 c j) ∧ eg = .returned (vrrf20b X idl ab gr ge tk9 st en co v5 c' 23) ∧ Wd c' (upd L 23) w')
    (r24 : ∀ W, (do eqGuard .add 9 (.tmp 51) (.tmp 54) (S (((((((((v5 ++ ((be 6 idl.toNat)))) ++ ((be 6 ab.toNat)))) ++ ((be 6 gr.toNat)))) ++ ((be 4 ge.toNat)))) ++ ((be 8 tk9.toNat)))) (S (be 1 st.toNat)); binOp .add 9 (S (((((((((v5 ++ ((be 6 idl.toNat)))) ++ ((be 6 ab.toNat)))) ++ ((be 6 gr.toNat)))) ++ ((be 4 ge.toNat)))) ++ ((be 8 tk9.toNat)))) (S (be 1 st.toNat))).run Tryz.prog W = .ok (S (((((((((((v5 ++ ((be 6 idl.toNat)))) ++ ((be 6 ab.toNat)))) ++ ((be 6 gr.toNat)))) ++ ((be 4 ge.toNat)))) ++ ((be 8 tk9.toNat)))) ++ ((be 1 st.toNat)))) W)
    (e24 : ∀ c L W, Wd c L W → L 24 = false → L 20 = true → L 23 = true → Wd c (upd L 24) W)
    (r26 : ∀ c L W, Wd c L W → L 26 = false → L 25 = true → (Instr.loadAt 3 (.pointer (some ⟨X, 12, none⟩))).run Tryz.prog W = .ok (I en) W)
    (r27 : ∀ c L W, Wd c L W → L 27 = false → L 26 = true → Calls Tryz.prog 62 #[(I en), (I 6)] W fun eg w' => ∃ c', (∀ j, L j = true → vrrf20b X idl ab gr ge tk9 st en co v5 c' j = vrrf20b X idl ab gr ge tk9 st en co v5 c j) ∧ eg = .returned (vrrf20b X idl ab gr ge tk9 st en co v5 c' 27) ∧ Wd c' (upd L 27) w')
    (r28 : ∀ W, (do eqGuard .add 9 (.tmp 55) (.tmp 58) (S (((((((((((v5 ++ ((be 6 idl.toNat)))) ++ ((be 6 ab.toNat)))) ++ ((be 6 gr.toNat)))) ++ ((be 4 ge.toNat)))) ++ ((be 8 tk9.toNat)))) ++ ((be 1 st.toNat)))) (S (be 6 en.toNat)); binOp .add 9 (S (((((((((((v5 ++ ((be 6 idl.toNat)))) ++ ((be 6 ab.toNat)))) ++ ((be 6 gr.toNat)))) ++ ((be 4 ge.toNat)))) ++ ((be 8 tk9.toNat)))) ++ ((be 1 st.toNat)))) (S (be 6 en.toNat))).run Tryz.prog W = .ok (S (((((((((((((v5 ++ ((be 6 idl.toNat)))) ++ ((be 6 ab.toNat)))) ++ ((be 6 gr.toNat)))) ++ ((be 4 ge.toNat)))) ++ ((be 8 tk9.toNat)))) ++ ((be 1 st.toNat)))) ++ ((be 6 en.toNat)))) W)
    (e28 : ∀ c L W, Wd c L W → L 28 = false → L 24 = true → L 27 = true → Wd c (upd L 28) W)
    (r30 : ∀ c L W, Wd c L W → L 30 = false → L 29 = true → (Instr.loadAt 3 (.pointer (some ⟨X, 13, none⟩))).run Tryz.prog W = .ok (I co) W)
    (r31 : ∀ c L W, Wd c L W → L 31 = false → L 30 = true → Calls Tryz.prog 62 #[(I co), (I 8)] W fun eg w' => ∃ c', (∀ j, L j = true → vrrf20b X idl ab gr ge tk9 st en co v5 c' j = vrrf20b X idl ab gr ge tk9 st en co v5 c j) ∧ eg = .returned (vrrf20b X idl ab gr ge tk9 st en co v5 c' 31) ∧ Wd c' (upd L 31) w')
    (r32 : ∀ W, (do eqGuard .add 9 (.tmp 59) (.tmp 62) (S (((((((((((((v5 ++ ((be 6 idl.toNat)))) ++ ((be 6 ab.toNat)))) ++ ((be 6 gr.toNat)))) ++ ((be 4 ge.toNat)))) ++ ((be 8 tk9.toNat)))) ++ ((be 1 st.toNat)))) ++ ((be 6 en.toNat)))) (S (be 8 co.toNat)); binOp .add 9 (S (((((((((((((v5 ++ ((be 6 idl.toNat)))) ++ ((be 6 ab.toNat)))) ++ ((be 6 gr.toNat)))) ++ ((be 4 ge.toNat)))) ++ ((be 8 tk9.toNat)))) ++ ((be 1 st.toNat)))) ++ ((be 6 en.toNat)))) (S (be 8 co.toNat))).run Tryz.prog W = .ok (S (((((((((((((((v5 ++ ((be 6 idl.toNat)))) ++ ((be 6 ab.toNat)))) ++ ((be 6 gr.toNat)))) ++ ((be 4 ge.toNat)))) ++ ((be 8 tk9.toNat)))) ++ ((be 1 st.toNat)))) ++ ((be 6 en.toNat)))) ++ ((be 8 co.toNat)))) W)
    (e32 : ∀ c L W, Wd c L W → L 32 = false → L 28 = true → L 31 = true → Wd c (upd L 32) W)
    (r33 : ∀ c L W, Wd c L W → L 33 = false → L 32 = true → Wd c (upd L 33) W)
    (hend : ∀ c L W, (∀ i, i < 34 → L i = true) → Wd c L W → Q .normal (crrf20b a0 X idl ab gr ge tk9 st en co v5 c) W) : (Code.region id ops true).wp Tryz.prog Q a0 w := by
  let val : Unit → Nat → Value := vrrf20b X idl ab gr ge tk9 st en co v5
  have hosz : ops.size = 34 := by
    have := congrArg List.length htab
    simpa [rrf20bT] using this
  have hds : ∀ i s, (rrf20bT[i]?).bind (·.2.1) = some s → dstOf ops i = some s := fun i s hi => by rw [tab_dst htab, hi]
  have hdisB : disL rrf20bT = true := by rfl
  have hdis := disL_of htab hdisB
  have hold : ∀ s, rrf20bT.all (fun x => !(x.2.1 == some s)) = true → (List.range ops.size).all (fun j => !(dstOf ops j == some s)) = true := fun s h => holdL htab s h
  refine region_detX val Wd (hac_of hac) hdis h0 ?_ ?_
  rotate_left
  · intro c L W hall hW
    have := hend c L W (by rw [← hosz]; exact hall) hW
    have e : frm ops a0 (val c) (fun _ => true) ops.size = (crrf20b a0 X idl ab gr ge tk9 st en co v5 c) := by
      rw [hosz]
      simp only [crrf20b, frm, if_true]
      rw [tab_dst htab 0, tab_dst htab 1, tab_dst htab 2, tab_dst htab 3, tab_dst htab 4, tab_dst htab 5, tab_dst htab 6, tab_dst htab 7, tab_dst htab 8, tab_dst htab 9, tab_dst htab 10, tab_dst htab 11, tab_dst htab 12, tab_dst htab 13, tab_dst htab 14, tab_dst htab 15, tab_dst htab 16, tab_dst htab 17, tab_dst htab 18, tab_dst htab 19, tab_dst htab 20, tab_dst htab 21, tab_dst htab 22, tab_dst htab 23, tab_dst htab 24, tab_dst htab 25, tab_dst htab 26, tab_dst htab 27, tab_dst htab 28, tab_dst htab 29, tab_dst htab 30, tab_dst htab 31, tab_dst htab 32, tab_dst htab 33]
      rfl
    rw [e]
    exact this
  intro i o ho c L a w' hL hd ha hW
  have hi : i < 34 := by rw [← hosz]; exact (Array.getElem?_eq_some_iff.1 ho).1
  have G : ∀ j s : Nat, (rrf20bT[j]?).bind (·.2.1) = some s → s < 64 → (i, j) ∈ rrf20bD → a.tmps[s]? = some (val c j) := fun j s h1 h2 h3 => frm_at hdis ha j s (hds j s h1) (by omega) (depl_of hdep i j h3 ho hd)
  match i, ho, hL, hi, G with
  | 0, ho, hL, _, G =>
    obtain ⟨hop, hgd⟩ := tab3 htab ho rfl
    have h0 : a.tmps[5]? = some (S v5) := by rw [ha, frm_late a0 (val c) L 5 33 (e0 c L w' hW hL) ops.size (late_of htab (by rfl))]; exact o5
    exact (dXr ho hgd (hpure 0 (by decide) c L w' hW) (g_mov hop (eval_of h0)))
  | 1, ho, hL, _, G =>
    obtain ⟨hop, hgd⟩ := tab3 htab ho rfl
    have h0 := frm_old ha 1 _ (hold 1 rfl) o1
    exact (dXr ho hgd (hpure 1 (by decide) c L w' hW) (g_field hop (eval_of h0) (by kernel_rfl)))
  | 2, ho, hL, _, G =>
    obtain ⟨hop, hgd⟩ := tab3 htab ho rfl
    have h0 := G 1 32 rfl (by decide) (by decide)
    exact (dXr ho hgd (hpure 2 (by decide) c L w' hW) (g_load hop (eval_of h0) (r2 c L w' hW hL (depl_of hdep 2 1 (by decide) ho hd))))
  | 3, ho, hL, _, G =>
    obtain ⟨hop, hgd⟩ := tab3 htab ho rfl
    have h0 := G 2 33 rfl (by decide) (by decide)
    refine doesX_call ho (wanted_none hgd) 62 #[(I idl), (I 6)] ?_ (r3 c L w' hW hL (depl_of hdep 3 2 (by decide) ho hd))
    rw [run_calls Tryz.func62 (by kernel_rfl) rfl _ _ _ _ hop rfl]
    simp only [List.map_toArray, List.map_cons, List.map_nil, eval_of h0]
    all_goals rfl
  | 4, ho, hL, _, G =>
    obtain ⟨hop, hgd⟩ := tab3 htab ho rfl
    have h0 := G 0 31 rfl (by decide) (by decide)
    have h1 := G 3 34 rfl (by decide) (by decide)
    exact (dXr ho hgd (e4 c L w' hW hL (depl_of hdep 4 0 (by decide) ho hd) (depl_of hdep 4 3 (by decide) ho hd)) (g_bin hop (eval_of h0) (eval_of h1) (r4 w')))
  | 5, ho, hL, _, G =>
    obtain ⟨hop, hgd⟩ := tab3 htab ho rfl
    have h0 := frm_old ha 1 _ (hold 1 rfl) o1
    exact (dXr ho hgd (hpure 5 (by decide) c L w' hW) (g_field hop (eval_of h0) (by kernel_rfl)))
  | 6, ho, hL, _, G =>
    obtain ⟨hop, hgd⟩ := tab3 htab ho rfl
    have h0 := G 5 36 rfl (by decide) (by decide)
    exact (dXr ho hgd (hpure 6 (by decide) c L w' hW) (g_load hop (eval_of h0) (r6 c L w' hW hL (depl_of hdep 6 5 (by decide) ho hd))))
  | 7, ho, hL, _, G =>
    obtain ⟨hop, hgd⟩ := tab3 htab ho rfl
    have h0 := G 6 37 rfl (by decide) (by decide)
    refine doesX_call ho (wanted_none hgd) 62 #[(I ab), (I 6)] ?_ (r7 c L w' hW hL (depl_of hdep 7 6 (by decide) ho hd))
    rw [run_calls Tryz.func62 (by kernel_rfl) rfl _ _ _ _ hop rfl]
    simp only [List.map_toArray, List.map_cons, List.map_nil, eval_of h0]
    all_goals rfl
  | 8, ho, hL, _, G =>
    obtain ⟨hop, hgd⟩ := tab3 htab ho rfl
    have h0 := G 4 35 rfl (by decide) (by decide)
    have h1 := G 7 38 rfl (by decide) (by decide)
    exact (dXr ho hgd (e8 c L w' hW hL (depl_of hdep 8 4 (by decide) ho hd) (depl_of hdep 8 7 (by decide) ho hd)) (g_bin hop (eval_of h0) (eval_of h1) (r8 w')))
  | 9, ho, hL, _, G =>
    obtain ⟨hop, hgd⟩ := tab3 htab ho rfl
    have h0 := frm_old ha 1 _ (hold 1 rfl) o1
    exact (dXr ho hgd (hpure 9 (by decide) c L w' hW) (g_field hop (eval_of h0) (by kernel_rfl)))
  | 10, ho, hL, _, G =>
    obtain ⟨hop, hgd⟩ := tab3 htab ho rfl
    have h0 := G 9 40 rfl (by decide) (by decide)
    exact (dXr ho hgd (hpure 10 (by decide) c L w' hW) (g_load hop (eval_of h0) (r10 c L w' hW hL (depl_of hdep 10 9 (by decide) ho hd))))
  | 11, ho, hL, _, G =>
    obtain ⟨hop, hgd⟩ := tab3 htab ho rfl
    have h0 := G 10 41 rfl (by decide) (by decide)
    refine doesX_call ho (wanted_none hgd) 62 #[(I gr), (I 6)] ?_ (r11 c L w' hW hL (depl_of hdep 11 10 (by decide) ho hd))
    rw [run_calls Tryz.func62 (by kernel_rfl) rfl _ _ _ _ hop rfl]
    simp only [List.map_toArray, List.map_cons, List.map_nil, eval_of h0]
    all_goals rfl
  | 12, ho, hL, _, G =>
    obtain ⟨hop, hgd⟩ := tab3 htab ho rfl
    have h0 := G 8 39 rfl (by decide) (by decide)
    have h1 := G 11 42 rfl (by decide) (by decide)
    exact (dXr ho hgd (e12 c L w' hW hL (depl_of hdep 12 8 (by decide) ho hd) (depl_of hdep 12 11 (by decide) ho hd)) (g_bin hop (eval_of h0) (eval_of h1) (r12 w')))
  | 13, ho, hL, _, G =>
    obtain ⟨hop, hgd⟩ := tab3 htab ho rfl
    have h0 := frm_old ha 1 _ (hold 1 rfl) o1
    exact (dXr ho hgd (hpure 13 (by decide) c L w' hW) (g_field hop (eval_of h0) (by kernel_rfl)))
  | 14, ho, hL, _, G =>
    obtain ⟨hop, hgd⟩ := tab3 htab ho rfl
    have h0 := G 13 44 rfl (by decide) (by decide)
    exact (dXr ho hgd (hpure 14 (by decide) c L w' hW) (g_load hop (eval_of h0) (r14 c L w' hW hL (depl_of hdep 14 13 (by decide) ho hd))))
  | 15, ho, hL, _, G =>
    obtain ⟨hop, hgd⟩ := tab3 htab ho rfl
    have h0 := G 14 45 rfl (by decide) (by decide)
    refine doesX_call ho (wanted_none hgd) 62 #[(I ge), (I 4)] ?_ (r15 c L w' hW hL (depl_of hdep 15 14 (by decide) ho hd))
    rw [run_calls Tryz.func62 (by kernel_rfl) rfl _ _ _ _ hop rfl]
    simp only [List.map_toArray, List.map_cons, List.map_nil, eval_of h0]
    all_goals rfl
  | 16, ho, hL, _, G =>
    obtain ⟨hop, hgd⟩ := tab3 htab ho rfl
    have h0 := G 12 43 rfl (by decide) (by decide)
    have h1 := G 15 46 rfl (by decide) (by decide)
    exact (dXr ho hgd (e16 c L w' hW hL (depl_of hdep 16 12 (by decide) ho hd) (depl_of hdep 16 15 (by decide) ho hd)) (g_bin hop (eval_of h0) (eval_of h1) (r16 w')))
  | 17, ho, hL, _, G =>
    obtain ⟨hop, hgd⟩ := tab3 htab ho rfl
    have h0 := frm_old ha 1 _ (hold 1 rfl) o1
    exact (dXr ho hgd (hpure 17 (by decide) c L w' hW) (g_field hop (eval_of h0) (by kernel_rfl)))
  | 18, ho, hL, _, G =>
    obtain ⟨hop, hgd⟩ := tab3 htab ho rfl
    have h0 := G 17 48 rfl (by decide) (by decide)
    exact (dXr ho hgd (hpure 18 (by decide) c L w' hW) (g_load hop (eval_of h0) (r18 c L w' hW hL (depl_of hdep 18 17 (by decide) ho hd))))
  | 19, ho, hL, _, G =>
    obtain ⟨hop, hgd⟩ := tab3 htab ho rfl
    have h0 := G 18 49 rfl (by decide) (by decide)
    refine doesX_call ho (wanted_none hgd) 62 #[(I tk9), (I 8)] ?_ (r19 c L w' hW hL (depl_of hdep 19 18 (by decide) ho hd))
    rw [run_calls Tryz.func62 (by kernel_rfl) rfl _ _ _ _ hop rfl]
    simp only [List.map_toArray, List.map_cons, List.map_nil, eval_of h0]
    all_goals rfl
  | 20, ho, hL, _, G =>
    obtain ⟨hop, hgd⟩ := tab3 htab ho rfl
    have h0 := G 16 47 rfl (by decide) (by decide)
    have h1 := G 19 50 rfl (by decide) (by decide)
    exact (dXr ho hgd (e20 c L w' hW hL (depl_of hdep 20 16 (by decide) ho hd) (depl_of hdep 20 19 (by decide) ho hd)) (g_bin hop (eval_of h0) (eval_of h1) (r20 w')))
  | 21, ho, hL, _, G =>
    obtain ⟨hop, hgd⟩ := tab3 htab ho rfl
    have h0 := frm_old ha 1 _ (hold 1 rfl) o1
    exact (dXr ho hgd (hpure 21 (by decide) c L w' hW) (g_field hop (eval_of h0) (by kernel_rfl)))
  | 22, ho, hL, _, G =>
    obtain ⟨hop, hgd⟩ := tab3 htab ho rfl
    have h0 := G 21 52 rfl (by decide) (by decide)
    exact (dXr ho hgd (hpure 22 (by decide) c L w' hW) (g_load hop (eval_of h0) (r22 c L w' hW hL (depl_of hdep 22 21 (by decide) ho hd))))
  | 23, ho, hL, _, G =>
    obtain ⟨hop, hgd⟩ := tab3 htab ho rfl
    have h0 := G 22 53 rfl (by decide) (by decide)
    refine doesX_call ho (wanted_none hgd) 62 #[(I st), (I 1)] ?_ (r23 c L w' hW hL (depl_of hdep 23 22 (by decide) ho hd))
    rw [run_calls Tryz.func62 (by kernel_rfl) rfl _ _ _ _ hop rfl]
    simp only [List.map_toArray, List.map_cons, List.map_nil, eval_of h0]
    all_goals rfl
  | 24, ho, hL, _, G =>
    obtain ⟨hop, hgd⟩ := tab3 htab ho rfl
    have h0 := G 20 51 rfl (by decide) (by decide)
    have h1 := G 23 54 rfl (by decide) (by decide)
    exact (dXr ho hgd (e24 c L w' hW hL (depl_of hdep 24 20 (by decide) ho hd) (depl_of hdep 24 23 (by decide) ho hd)) (g_bin hop (eval_of h0) (eval_of h1) (r24 w')))
  | 25, ho, hL, _, G =>
    obtain ⟨hop, hgd⟩ := tab3 htab ho rfl
    have h0 := frm_old ha 1 _ (hold 1 rfl) o1
    exact (dXr ho hgd (hpure 25 (by decide) c L w' hW) (g_field hop (eval_of h0) (by kernel_rfl)))
  | 26, ho, hL, _, G =>
    obtain ⟨hop, hgd⟩ := tab3 htab ho rfl
    have h0 := G 25 56 rfl (by decide) (by decide)
    exact (dXr ho hgd (hpure 26 (by decide) c L w' hW) (g_load hop (eval_of h0) (r26 c L w' hW hL (depl_of hdep 26 25 (by decide) ho hd))))
  | 27, ho, hL, _, G =>
    obtain ⟨hop, hgd⟩ := tab3 htab ho rfl
    have h0 := G 26 57 rfl (by decide) (by decide)
    refine doesX_call ho (wanted_none hgd) 62 #[(I en), (I 6)] ?_ (r27 c L w' hW hL (depl_of hdep 27 26 (by decide) ho hd))
    rw [run_calls Tryz.func62 (by kernel_rfl) rfl _ _ _ _ hop rfl]
    simp only [List.map_toArray, List.map_cons, List.map_nil, eval_of h0]
    all_goals rfl
  | 28, ho, hL, _, G =>
    obtain ⟨hop, hgd⟩ := tab3 htab ho rfl
    have h0 := G 24 55 rfl (by decide) (by decide)
    have h1 := G 27 58 rfl (by decide) (by decide)
    exact (dXr ho hgd (e28 c L w' hW hL (depl_of hdep 28 24 (by decide) ho hd) (depl_of hdep 28 27 (by decide) ho hd)) (g_bin hop (eval_of h0) (eval_of h1) (r28 w')))
  | 29, ho, hL, _, G =>
    obtain ⟨hop, hgd⟩ := tab3 htab ho rfl
    have h0 := frm_old ha 1 _ (hold 1 rfl) o1
    exact (dXr ho hgd (hpure 29 (by decide) c L w' hW) (g_field hop (eval_of h0) (by kernel_rfl)))
  | 30, ho, hL, _, G =>
    obtain ⟨hop, hgd⟩ := tab3 htab ho rfl
    have h0 := G 29 60 rfl (by decide) (by decide)
    exact (dXr ho hgd (hpure 30 (by decide) c L w' hW) (g_load hop (eval_of h0) (r30 c L w' hW hL (depl_of hdep 30 29 (by decide) ho hd))))
  | 31, ho, hL, _, G =>
    obtain ⟨hop, hgd⟩ := tab3 htab ho rfl
    have h0 := G 30 61 rfl (by decide) (by decide)
    refine doesX_call ho (wanted_none hgd) 62 #[(I co), (I 8)] ?_ (r31 c L w' hW hL (depl_of hdep 31 30 (by decide) ho hd))
    rw [run_calls Tryz.func62 (by kernel_rfl) rfl _ _ _ _ hop rfl]
    simp only [List.map_toArray, List.map_cons, List.map_nil, eval_of h0]
    all_goals rfl
  | 32, ho, hL, _, G =>
    obtain ⟨hop, hgd⟩ := tab3 htab ho rfl
    have h0 := G 28 59 rfl (by decide) (by decide)
    have h1 := G 31 62 rfl (by decide) (by decide)
    exact (dXr ho hgd (e32 c L w' hW hL (depl_of hdep 32 28 (by decide) ho hd) (depl_of hdep 32 31 (by decide) ho hd)) (g_bin hop (eval_of h0) (eval_of h1) (r32 w')))
  | 33, ho, hL, _, G =>
    obtain ⟨hop, hgd⟩ := tab3 htab ho rfl
    have h0 := G 32 63 rfl (by decide) (by decide)
    exact (dXr ho hgd (r33 c L w' hW hL (depl_of hdep 33 32 (by decide) ho hd)) (by rw [run_assign _ _ _ hop]; exact congrArg (fun v => Result.ok (Next.value v) w') (eval_of h0)))
  | (i + 34), ho, hL, hi, _ => exact absurd hi (by omega)
theorem rPr20 (id9 : Int) (cl su : Bs) (va : Option Addr) (vc : Nat) (sc : List Bs) (cr us idl ab gr ge tk9 st en co : Int) (w : World) (hcl : cl.length ≤ 9223372036854775807) (hsu : su.length ≤ 9223372036854775807) (hsc : Sts w va sc.length sc) (hsl : sc.length ≤ 140737488355000) (hln : Lns sc) : Calls Tryz.prog 20 #[.agg #[I id9, S cl, S su, .slice va sc.length vc, I cr, I us, I idl, I ab, I gr, I ge, I tk9, I st, I en, I co]] w fun e w' => e = .returned (.tuple #[.agg #[S (famP id9 cl su sc cr us idl ab gr ge tk9 st en co).1.1, S (famP id9 cl su sc cr us idl ab gr ge tk9 st en co).1.2], I (famP id9 cl su sc cr us idl ab gr ge tk9 st en co).2]) ∧ Below w.heap.size w w' := by
  have hb0 : Below w.heap.size w ((w.alloc (.cells #[I id9, S cl, S su, .slice va sc.length vc, I cr, I us, I idl, I ab, I gr, I ge, I tk9, I st, I en, I co] 40)).alloc (.cells #[S [], S []] 30)) := ((Below.refl _ w).alloc (Nat.le_refl _) _).alloc (by simp) _
  have hT : ((w.alloc (.cells #[I id9, S cl, S su, .slice va sc.length vc, I cr, I us, I idl, I ab, I gr, I ge, I tk9, I st, I en, I co] 40)).alloc (.cells #[S [], S []] 30)).heap[w.heap.size]? = some (.cells #[I id9, S cl, S su, .slice va sc.length vc, I cr, I us, I idl, I ab, I gr, I ge, I tk9, I st, I en, I co] 40 (0, 0)) := by
    rw [heap_alloc_old _ _ (by simp)]; exact heap_alloc_new _ _
  have hR : ((w.alloc (.cells #[I id9, S cl, S su, .slice va sc.length vc, I cr, I us, I idl, I ab, I gr, I ge, I tk9, I st, I en, I co] 40)).alloc (.cells #[S [], S []] 30)).heap[w.heap.size + 1]? = some (.cells #[S [], S []] 30 (0, 0)) := by
    have e := heap_alloc_new (w.alloc (.cells #[I id9, S cl, S su, .slice va sc.length vc, I cr, I us, I idl, I ab, I gr, I ge, I tk9, I st, I en, I co] 40)) (.cells #[S [], S []] 30)
    simpa using e
  have c0 : ((w.alloc (.cells #[I id9, S cl, S su, .slice va sc.length vc, I cr, I us, I idl, I ab, I gr, I ge, I tk9, I st, I en, I co] 40)).alloc (.cells #[S [], S []] 30)).cell? ⟨w.heap.size, 0, none⟩ = some (I id9) := cellr hT rfl
  have c1 : ((w.alloc (.cells #[I id9, S cl, S su, .slice va sc.length vc, I cr, I us, I idl, I ab, I gr, I ge, I tk9, I st, I en, I co] 40)).alloc (.cells #[S [], S []] 30)).cell? ⟨w.heap.size, 1, none⟩ = some (S cl) := cellr hT rfl
  have c2 : ((w.alloc (.cells #[I id9, S cl, S su, .slice va sc.length vc, I cr, I us, I idl, I ab, I gr, I ge, I tk9, I st, I en, I co] 40)).alloc (.cells #[S [], S []] 30)).cell? ⟨w.heap.size, 2, none⟩ = some (S su) := cellr hT rfl
  have c3 : ((w.alloc (.cells #[I id9, S cl, S su, .slice va sc.length vc, I cr, I us, I idl, I ab, I gr, I ge, I tk9, I st, I en, I co] 40)).alloc (.cells #[S [], S []] 30)).cell? ⟨w.heap.size, 3, none⟩ = some (.slice va sc.length vc) := cellr hT rfl
  have c4 : ((w.alloc (.cells #[I id9, S cl, S su, .slice va sc.length vc, I cr, I us, I idl, I ab, I gr, I ge, I tk9, I st, I en, I co] 40)).alloc (.cells #[S [], S []] 30)).cell? ⟨w.heap.size, 4, none⟩ = some (I cr) := cellr hT rfl
  have c5 : ((w.alloc (.cells #[I id9, S cl, S su, .slice va sc.length vc, I cr, I us, I idl, I ab, I gr, I ge, I tk9, I st, I en, I co] 40)).alloc (.cells #[S [], S []] 30)).cell? ⟨w.heap.size, 5, none⟩ = some (I us) := cellr hT rfl
  have c6 : ((w.alloc (.cells #[I id9, S cl, S su, .slice va sc.length vc, I cr, I us, I idl, I ab, I gr, I ge, I tk9, I st, I en, I co] 40)).alloc (.cells #[S [], S []] 30)).cell? ⟨w.heap.size, 6, none⟩ = some (I idl) := cellr hT rfl
  have c7 : ((w.alloc (.cells #[I id9, S cl, S su, .slice va sc.length vc, I cr, I us, I idl, I ab, I gr, I ge, I tk9, I st, I en, I co] 40)).alloc (.cells #[S [], S []] 30)).cell? ⟨w.heap.size, 7, none⟩ = some (I ab) := cellr hT rfl
  have c8 : ((w.alloc (.cells #[I id9, S cl, S su, .slice va sc.length vc, I cr, I us, I idl, I ab, I gr, I ge, I tk9, I st, I en, I co] 40)).alloc (.cells #[S [], S []] 30)).cell? ⟨w.heap.size, 8, none⟩ = some (I gr) := cellr hT rfl
  have c9 : ((w.alloc (.cells #[I id9, S cl, S su, .slice va sc.length vc, I cr, I us, I idl, I ab, I gr, I ge, I tk9, I st, I en, I co] 40)).alloc (.cells #[S [], S []] 30)).cell? ⟨w.heap.size, 9, none⟩ = some (I ge) := cellr hT rfl
  have c10 : ((w.alloc (.cells #[I id9, S cl, S su, .slice va sc.length vc, I cr, I us, I idl, I ab, I gr, I ge, I tk9, I st, I en, I co] 40)).alloc (.cells #[S [], S []] 30)).cell? ⟨w.heap.size, 10, none⟩ = some (I tk9) := cellr hT rfl
  have c11 : ((w.alloc (.cells #[I id9, S cl, S su, .slice va sc.length vc, I cr, I us, I idl, I ab, I gr, I ge, I tk9, I st, I en, I co] 40)).alloc (.cells #[S [], S []] 30)).cell? ⟨w.heap.size, 11, none⟩ = some (I st) := cellr hT rfl
  have c12 : ((w.alloc (.cells #[I id9, S cl, S su, .slice va sc.length vc, I cr, I us, I idl, I ab, I gr, I ge, I tk9, I st, I en, I co] 40)).alloc (.cells #[S [], S []] 30)).cell? ⟨w.heap.size, 12, none⟩ = some (I en) := cellr hT rfl
  have c13 : ((w.alloc (.cells #[I id9, S cl, S su, .slice va sc.length vc, I cr, I us, I idl, I ab, I gr, I ge, I tk9, I st, I en, I co] 40)).alloc (.cells #[S [], S []] 30)).cell? ⟨w.heap.size, 13, none⟩ = some (I co) := cellr hT rfl
  have HM := hide (rMay75 id9 cl su va vc sc cr us idl ab gr ge tk9 st en co ((w.alloc (.cells #[I id9, S cl, S su, .slice va sc.length vc, I cr, I us, I idl, I ab, I gr, I ge, I tk9, I st, I en, I co] 40)).alloc (.cells #[S [], S []] 30)) hcl hsu (hsc.bel hb0) hsl hln)
  generalize hW1 : ((w.alloc (.cells #[I id9, S cl, S su, .slice va sc.length vc, I cr, I us, I idl, I ab, I gr, I ge, I tk9, I st, I en, I co] 40)).alloc (.cells #[S [], S []] 30)) = W1 at *
  have HT := hide hT
  have HR := hide hR
  have HB := hide hb0
  have HS := hide hsc
  clear hT hR hb0 hsc hcl hsu hln
  go_enter Tryz.func20, Tryz.ntmps20
  go_wp2_with fail
  refine (unhide HM).mono ?_
  rintro e W2 ⟨rfl, hb⟩
  have HT2 := hide ((hb.block _ (lt_of_row (unhide HT))).trans (unhide HT))
  have HR2 := hide ((hb.block _ (lt_of_row (unhide HR))).trans (unhide HR))
  have HB2 := hide ((unhide HB).trans (hb.mono (unhide HB).size))
  clear HM hb HT HR HB hW1 c0 c1 c2 c3 c4 c5 c6 c7 c8 c9 c10 c11 c12 c13
  cases hok : famOK id9 cl su sc cr us idl ab gr ge tk9 st en co
  · have HP : Hid (famP id9 cl su sc cr us idl ab gr ge tk9 st en co = (([], []), 140)) := hide (by simp [famP, hok])
    clear hok
    go_wp2_with (refine wp_st30 rfl (.tmp 2) (.tmp 10) rfl (w.heap.size + 1) (by rfl) [] [] (by rfl) #[S [], S []] rfl (unhide HR2) ?_)
    refine out2c (T := 30) (n := 2) (p := 2) (q := 3) (cs := #[S [], S []]) (fun _ => by kernel_rfl) (fun _ => by kernel_rfl) (Z := w.heap.size + 1) (by rfl) (by rfl) (by rfl) (by rfl) (setRow_row (unhide HR2)) (by rfl) ?_
    rw [unhide HP]
    exact ⟨rfl, (setRow_Only W2 (w.heap.size + 1) #[S [], S []]).below (unhide HB2) (unhide HB2).size (fun k e => by omega)⟩
  · have hbb := famB hok
    have hg : right sc = true := by simp only [famOK, Bool.and_eq_true] at hok; exact hok.2.2.2.2.2.1
    have hgs := right_small hg
    have HP : Hid (famP id9 cl su sc cr us idl ab gr ge tk9 st en co = (([102] ++ be 8 id9.toNat, (((((((((((((((((((((((((be 1 cl.length ++ cl)) ++ ((be 1 su.length ++ su)))) ++ ((be 1 ((tx sc)).length ++ (tx sc))))) ++ ((be 6 cr.toNat)))) ++ ((be 6 us.toNat)))) ++ ((be 6 idl.toNat)))) ++ ((be 6 ab.toNat)))) ++ ((be 6 gr.toNat)))) ++ ((be 4 ge.toNat)))) ++ ((be 8 tk9.toNat)))) ++ ((be 1 st.toNat)))) ++ ((be 6 en.toNat)))) ++ ((be 8 co.toNat)))), 0)) := hide (by unfold famP; rw [if_pos hok]; simp [cat, lx, famKl, famVl])
    have Rk0 : Rj w w.heap.size #[I id9, S cl, S su, .slice va sc.length vc, I cr, I us, I idl, I ab, I gr, I ge, I tk9, I st, I en, I co] 40 (w.heap.size + 1) #[S [], S []] 30 () (fun _ => false) W2.drew := ⟨(unhide HB2).drew, unhide HT2, unhide HR2⟩
    clear hok
    go_wp2_with fail
    refine rrf20a w.heap.size va vc cl su sc cr us rfl (by rfl) (by rfl) _ W2 (by simp) rfl (Rj w w.heap.size #[I id9, S cl, S su, .slice va sc.length vc, I cr, I us, I idl, I ab, I gr, I ge, I tk9, I st, I en, I co] 40 (w.heap.size + 1) #[S [], S []] 30) ⟨(), Rk0⟩ (fun i _ c L W hW => hW.any _)
      (fun c L W hW _ _ => s_ld (T := 9) (fun _ => by kernel_rfl) (hW.cell rfl))
      (fun c L W hW _ _ => (short_any (cl) W (by omega)).mono fun e w' q => ⟨(), fun _ _ => rfl, q.1, hW.call _ q.2⟩)
      (fun c L W hW _ _ => s_ld (T := 9) (fun _ => by kernel_rfl) (hW.cell rfl))
      (fun c L W hW _ _ => (short_any (su) W (by omega)).mono fun e w' q => ⟨(), fun _ _ => rfl, q.1, hW.call _ q.2⟩)
      (fun W => s_cat _ _ _ _ (by simp only [List.length_append, be_len]; omega))
      (fun c L W hW _ _ => s_ld (T := 22) (fun _ => by kernel_rfl) (hW.cell rfl))
      (fun c L W hW _ _ => (refText_any va sc.length vc sc W ((unhide HS).bel hW.bel) (by omega) hsl).mono fun e w' q => ⟨(), fun _ _ => rfl, q.1, by rw [q.2]; exact hW.any _⟩)
      (fun c L W hW _ _ => (short_any ((tx sc)) W (by omega)).mono fun e w' q => ⟨(), fun _ _ => rfl, q.1, hW.call _ q.2⟩)
      (fun W => s_cat _ _ _ _ (by simp only [List.length_append, be_len]; omega))
      (fun c L W hW _ _ => s_ld (T := 3) (fun _ => by kernel_rfl) (hW.cell rfl))
      (fun c L W hW _ _ => (byI cr 6 W (by decide) (by decide) (by omega) (by omega)).mono fun e w' q => ⟨(), fun _ _ => rfl, q.1, hW.call _ q.2⟩)
      (fun W => s_cat _ _ _ _ (by simp only [List.length_append, be_len]; omega))
      (fun c L W hW _ _ => s_ld (T := 3) (fun _ => by kernel_rfl) (hW.cell rfl))
      (fun c L W hW _ _ => (byI us 6 W (by decide) (by decide) (by omega) (by omega)).mono fun e w' q => ⟨(), fun _ _ => rfl, q.1, hW.call _ q.2⟩)
      (fun W => s_cat _ _ _ _ (by simp only [List.length_append, be_len]; omega))
      ?_
    intro c L W hall hW
    have Rk1 := hW
    have hv5 : ((((((((((be 1 cl.length ++ cl)) ++ ((be 1 su.length ++ su)))) ++ ((be 1 ((tx sc)).length ++ (tx sc))))) ++ ((be 6 cr.toNat)))) ++ ((be 6 us.toNat)))).length ≤ 1000 := by simp only [List.length_append, be_len]; omega
    clear hall hW Rk0 HB2 HT2 HR2 HS
    have Rk0 : Rj w w.heap.size #[I id9, S cl, S su, .slice va sc.length vc, I cr, I us, I idl, I ab, I gr, I ge, I tk9, I st, I en, I co] 40 (w.heap.size + 1) #[S [], S []] 30 () (fun _ => false) W.drew := ⟨Rk1.bel.drew, Rk1.rx, Rk1.rr⟩
    clear Rk1
    simp only [Act.put, List.setIfInBounds_toArray, List.set_cons_succ, List.set_cons_zero]
    generalize ((((((((((be 1 cl.length ++ cl)) ++ ((be 1 su.length ++ su)))) ++ ((be 1 ((tx sc)).length ++ (tx sc))))) ++ ((be 6 cr.toNat)))) ++ ((be 6 us.toNat)))) = v5 at *
    go_wp2_with fail
    refine rrf20b w.heap.size idl ab gr ge tk9 st en co v5 rfl (by rfl) (by rfl) _ W (by simp) rfl rfl (Rl w w.heap.size #[I id9, S cl, S su, .slice va sc.length vc, I cr, I us, I idl, I ab, I gr, I ge, I tk9, I st, I en, I co] 40 (w.heap.size + 1) #[S [], S []] 30 [(4, 0), (8, 4), (12, 8), (16, 12), (20, 16), (24, 20), (28, 24), (32, 28), (33, 32)]) ⟨(), ⟨Rk0, fun _ _ e => by cases e⟩⟩ (fun i hi c L W hW => hW.other i (fun d hd e => hi (by subst e; simp only [List.mem_cons, List.not_mem_nil, or_false] at hd; rcases hd with rfl | rfl | rfl | rfl | rfl | rfl | rfl | rfl | rfl <;> decide)))
      (fun c L W hW h0 => no_of (fun h => hW.dep (4, 0) (by decide) (hW.dep (8, 4) (by decide) (hW.dep (12, 8) (by decide) (hW.dep (16, 12) (by decide) (hW.dep (20, 16) (by decide) (hW.dep (24, 20) (by decide) (hW.dep (28, 24) (by decide) (hW.dep (32, 28) (by decide) (hW.dep (33, 32) (by decide) (h)))))))))) h0)
      (fun c L W hW _ _ => s_ld (T := 3) (fun _ => by kernel_rfl) (hW.base.cell rfl))
      (fun c L W hW _ _ => (byI idl 6 W (by decide) (by decide) (by omega) (by omega)).mono fun e w' q => ⟨(), fun _ _ => rfl, q.1, hW.call 3 (by decide) q.2⟩)
      (fun W => s_cat _ _ _ _ (by simp only [be_len]; omega))
      (fun c L W hW _ h0 h3 => hW.link 4 (fun d hd e => by
        simp only [List.mem_cons, List.not_mem_nil, or_false] at hd
        rcases hd with rfl | rfl | rfl | rfl | rfl | rfl | rfl | rfl | rfl
        · exact h0
        · exact absurd e (by decide)
        · exact absurd e (by decide)
        · exact absurd e (by decide)
        · exact absurd e (by decide)
        · exact absurd e (by decide)
        · exact absurd e (by decide)
        · exact absurd e (by decide)
        · exact absurd e (by decide)))
      (fun c L W hW _ _ => s_ld (T := 3) (fun _ => by kernel_rfl) (hW.base.cell rfl))
      (fun c L W hW _ _ => (byI ab 6 W (by decide) (by decide) (by omega) (by omega)).mono fun e w' q => ⟨(), fun _ _ => rfl, q.1, hW.call 7 (by decide) q.2⟩)
      (fun W => s_cat _ _ _ _ (by simp only [List.length_append, be_len]; omega))
      (fun c L W hW _ h4 h7 => hW.link 8 (fun d hd e => by
        simp only [List.mem_cons, List.not_mem_nil, or_false] at hd
        rcases hd with rfl | rfl | rfl | rfl | rfl | rfl | rfl | rfl | rfl
        · exact absurd e (by decide)
        · exact h4
        · exact absurd e (by decide)
        · exact absurd e (by decide)
        · exact absurd e (by decide)
        · exact absurd e (by decide)
        · exact absurd e (by decide)
        · exact absurd e (by decide)
        · exact absurd e (by decide)))
      (fun c L W hW _ _ => s_ld (T := 3) (fun _ => by kernel_rfl) (hW.base.cell rfl))
      (fun c L W hW _ _ => (byI gr 6 W (by decide) (by decide) (by omega) (by omega)).mono fun e w' q => ⟨(), fun _ _ => rfl, q.1, hW.call 11 (by decide) q.2⟩)
      (fun W => s_cat _ _ _ _ (by simp only [List.length_append, be_len]; omega))
      (fun c L W hW _ h8 h11 => hW.link 12 (fun d hd e => by
        simp only [List.mem_cons, List.not_mem_nil, or_false] at hd
        rcases hd with rfl | rfl | rfl | rfl | rfl | rfl | rfl | rfl | rfl
        · exact absurd e (by decide)
        · exact absurd e (by decide)
        · exact h8
        · exact absurd e (by decide)
        · exact absurd e (by decide)
        · exact absurd e (by decide)
        · exact absurd e (by decide)
        · exact absurd e (by decide)
        · exact absurd e (by decide)))
      (fun c L W hW _ _ => s_ld (T := 3) (fun _ => by kernel_rfl) (hW.base.cell rfl))
      (fun c L W hW _ _ => (byI ge 4 W (by decide) (by decide) (by omega) (by omega)).mono fun e w' q => ⟨(), fun _ _ => rfl, q.1, hW.call 15 (by decide) q.2⟩)
      (fun W => s_cat _ _ _ _ (by simp only [List.length_append, be_len]; omega))
      (fun c L W hW _ h12 h15 => hW.link 16 (fun d hd e => by
        simp only [List.mem_cons, List.not_mem_nil, or_false] at hd
        rcases hd with rfl | rfl | rfl | rfl | rfl | rfl | rfl | rfl | rfl
        · exact absurd e (by decide)
        · exact absurd e (by decide)
        · exact absurd e (by decide)
        · exact h12
        · exact absurd e (by decide)
        · exact absurd e (by decide)
        · exact absurd e (by decide)
        · exact absurd e (by decide)
        · exact absurd e (by decide)))
      (fun c L W hW _ _ => s_ld (T := 3) (fun _ => by kernel_rfl) (hW.base.cell rfl))
      (fun c L W hW _ _ => (byI tk9 8 W (by decide) (by decide) (by omega) (by omega)).mono fun e w' q => ⟨(), fun _ _ => rfl, q.1, hW.call 19 (by decide) q.2⟩)
      (fun W => s_cat _ _ _ _ (by simp only [List.length_append, be_len]; omega))
      (fun c L W hW _ h16 h19 => hW.link 20 (fun d hd e => by
        simp only [List.mem_cons, List.not_mem_nil, or_false] at hd
        rcases hd with rfl | rfl | rfl | rfl | rfl | rfl | rfl | rfl | rfl
        · exact absurd e (by decide)
        · exact absurd e (by decide)
        · exact absurd e (by decide)
        · exact absurd e (by decide)
        · exact h16
        · exact absurd e (by decide)
        · exact absurd e (by decide)
        · exact absurd e (by decide)
        · exact absurd e (by decide)))
      (fun c L W hW _ _ => s_ld (T := 3) (fun _ => by kernel_rfl) (hW.base.cell rfl))
      (fun c L W hW _ _ => (byI st 1 W (by decide) (by decide) (by omega) (by omega)).mono fun e w' q => ⟨(), fun _ _ => rfl, q.1, hW.call 23 (by decide) q.2⟩)
      (fun W => s_cat _ _ _ _ (by simp only [List.length_append, be_len]; omega))
      (fun c L W hW _ h20 h23 => hW.link 24 (fun d hd e => by
        simp only [List.mem_cons, List.not_mem_nil, or_false] at hd
        rcases hd with rfl | rfl | rfl | rfl | rfl | rfl | rfl | rfl | rfl
        · exact absurd e (by decide)
        · exact absurd e (by decide)
        · exact absurd e (by decide)
        · exact absurd e (by decide)
        · exact absurd e (by decide)
        · exact h20
        · exact absurd e (by decide)
        · exact absurd e (by decide)
        · exact absurd e (by decide)))
      (fun c L W hW _ _ => s_ld (T := 3) (fun _ => by kernel_rfl) (hW.base.cell rfl))
      (fun c L W hW _ _ => (byI en 6 W (by decide) (by decide) (by omega) (by omega)).mono fun e w' q => ⟨(), fun _ _ => rfl, q.1, hW.call 27 (by decide) q.2⟩)
      (fun W => s_cat _ _ _ _ (by simp only [List.length_append, be_len]; omega))
      (fun c L W hW _ h24 h27 => hW.link 28 (fun d hd e => by
        simp only [List.mem_cons, List.not_mem_nil, or_false] at hd
        rcases hd with rfl | rfl | rfl | rfl | rfl | rfl | rfl | rfl | rfl
        · exact absurd e (by decide)
        · exact absurd e (by decide)
        · exact absurd e (by decide)
        · exact absurd e (by decide)
        · exact absurd e (by decide)
        · exact absurd e (by decide)
        · exact h24
        · exact absurd e (by decide)
        · exact absurd e (by decide)))
      (fun c L W hW _ _ => s_ld (T := 3) (fun _ => by kernel_rfl) (hW.base.cell rfl))
      (fun c L W hW _ _ => (byI co 8 W (by decide) (by decide) (by omega) (by omega)).mono fun e w' q => ⟨(), fun _ _ => rfl, q.1, hW.call 31 (by decide) q.2⟩)
      (fun W => s_cat _ _ _ _ (by simp only [List.length_append, be_len]; omega))
      (fun c L W hW _ h28 h31 => hW.link 32 (fun d hd e => by
        simp only [List.mem_cons, List.not_mem_nil, or_false] at hd
        rcases hd with rfl | rfl | rfl | rfl | rfl | rfl | rfl | rfl | rfl
        · exact absurd e (by decide)
        · exact absurd e (by decide)
        · exact absurd e (by decide)
        · exact absurd e (by decide)
        · exact absurd e (by decide)
        · exact absurd e (by decide)
        · exact absurd e (by decide)
        · exact h28
        · exact absurd e (by decide)))
      (fun c L W hW _ h32 => hW.link 33 (fun d hd e => by
        simp only [List.mem_cons, List.not_mem_nil, or_false] at hd
        rcases hd with rfl | rfl | rfl | rfl | rfl | rfl | rfl | rfl | rfl
        · exact absurd e (by decide)
        · exact absurd e (by decide)
        · exact absurd e (by decide)
        · exact absurd e (by decide)
        · exact absurd e (by decide)
        · exact absurd e (by decide)
        · exact absurd e (by decide)
        · exact absurd e (by decide)
        · exact h32))
      ?_
    intro c L W9 hall hW
    have HB9 := hide hW.base.bel
    have HR9 := hide hW.base.rr
    have c0 : W9.cell? ⟨w.heap.size, 0, none⟩ = some (I id9) := hW.base.cell rfl
    clear hall hW Rk0
    have XB := hide (byI id9 8 W9 (by decide) (by decide) (by omega) (by omega))
    simp only [crrf20b, Act.put, List.setIfInBounds_toArray, List.set_cons_succ, List.set_cons_zero]
    generalize ((((((((((((((((v5 ++ ((be 6 idl.toNat)))) ++ ((be 6 ab.toNat)))) ++ ((be 6 gr.toNat)))) ++ ((be 4 ge.toNat)))) ++ ((be 8 tk9.toNat)))) ++ ((be 1 st.toNat)))) ++ ((be 6 en.toNat)))) ++ ((be 8 co.toNat)))) = v9 at *
    clear hbb hg hgs hsl hv5
    go_wp2_with fail
    refine (unhide XB).mono ?_
    rintro e W3 ⟨rfl, hb⟩
    have HB3 := hide ((unhide HB9).trans (hb.mono (unhide HB9).size))
    have HR3 := hide ((hb.block _ (lt_of_row (unhide HR9))).trans (unhide HR9))
    clear hb XB HB9 HR9 c0
    have hl8 := be_len 8 id9.toNat
    generalize be 8 id9.toNat = x9 at *
    go_wp2_with (refine wp_st30 rfl (.tmp 2) (.tmp 69) rfl (w.heap.size + 1) (by rfl) (102 :: x9) v9 (by rfl) #[S [], S []] rfl (unhide HR3) ?_)
    refine out2c (T := 30) (n := 2) (p := 2) (q := 3) (cs := #[S (102 :: x9), S v9]) (fun _ => by kernel_rfl) (fun _ => by kernel_rfl) (Z := w.heap.size + 1) (by rfl) (by rfl) (by rfl) (by rfl) (setRow_row (unhide HR3)) (by rfl) ?_
    rw [unhide HP]
    exact ⟨rfl, (setRow_Only W3 (w.heap.size + 1) #[S (102 :: x9), S v9]).below (unhide HB3) (unhide HB3).size (fun k e => by omega)⟩
end Go.Proofs.YtpidmpefodnffaaGreatDoor
