import Derived.Test.YtpidmpefodnffaaGreatDoorSma
import Derived.Test.YtpidmpefodnffaaGreatDoorOwp
import Derived.Deep.Cut
import Derived.Deep.CutRange
import Derived.Test.YtpidmpefodnffaaGreatDoorZrbb
import Derived.Test.YtpidmpefodnffaaGreatDoorOrp
import Derived.Deep.QuietTactic
import Derived.BigQuiet
import Derived.Test.YtpidmpefodnffaaGreatDoorZsch
import Derived.Lib.CutLaws
import Derived.Test.YtpidmpefodnffaaGreatDoorTra
import Derived.Test.YtpidmpefodnffaaGreatDoorZrca
import Derived.Test.YtpidmpefodnffaaGreatDoorZfde
import Derived.Test.YtpidmpefodnffaaGreatDoorRif
import Derived.Test.YtpidmpefodnffaaGreatDoorPrh
import Derived.Test.YtpidmpefodnffaaGreatDoorPrf
namespace Go.Proofs.YtpidmpefodnffaaGreatDoor
open Go.RowKit
set_option maxHeartbeats 8000000
set_option maxRecDepth 20000
/-- Rows that are kept. -/
def Kpr (l : List (Nat × Array Value × TypeId)) (W : World) : Prop := ∀ q, q ∈ l → W.heap[q.1]? = some (.cells q.2.1 q.2.2 (0, 0))
theorem Kpr.below {l : List (Nat × Array Value × TypeId)} {W W' : World} (h : Kpr l W) (hb : Below W.heap.size W W') : Kpr l W' := fun q hq => (hb.block _ (lt_of_row (h q hq))).trans (h q hq)
theorem Kpr.add {l : List (Nat × Array Value × TypeId)} {W : World} (h : Kpr l W) (cs : Array Value) (ty : TypeId) : Kpr ((W.heap.size, cs, ty) :: l) (W.alloc (.cells cs ty)) := fun q hq => by
  rcases List.mem_cons.1 hq with rfl | hq
  · exact heap_alloc_new _ _
  · exact (((Below.refl _ W).alloc (Nat.le_refl _) (.cells cs ty)).block _ (lt_of_row (h q hq))).trans (h q hq)
theorem Kpr.swap {a b : Nat × Array Value × TypeId} {l : List (Nat × Array Value × TypeId)} {W : World} (h : Kpr (a :: b :: l) W) : Kpr (b :: a :: l) W := fun q hq => h q (by
  simp only [List.mem_cons] at hq ⊢
  rcases hq with h | h | h
  · exact .inr (.inl h)
  · exact .inl h
  · exact .inr (.inr h))
theorem Kpr.tail {a : Nat × Array Value × TypeId} {l : List (Nat × Array Value × TypeId)} {W : World} (h : Kpr (a :: l) W) : Kpr l W := fun q hq => h q (List.mem_cons_of_mem _ hq)
theorem Kpr.r0 {a : Nat × Array Value × TypeId} {l : List (Nat × Array Value × TypeId)} {W : World} (h : Kpr (a :: l) W) : W.heap[a.1]? = some (.cells a.2.1 a.2.2 (0, 0)) := h a (List.mem_cons_self ..)
theorem bal {w W : World} (h : Below w.heap.size w W) (o : Obj) : Below w.heap.size w (W.alloc o) := h.alloc h.size o
theorem btr {w W W' : World} (h : Below w.heap.size w W) (hb : Below W.heap.size W W') : Below w.heap.size w W' := h.trans (hb.mono h.size)
end Go.Proofs.YtpidmpefodnffaaGreatDoor
namespace Go.Proofs.YtpidmpefodnffaaGreatDoor
open Go.RowKit Go.Lib
set_option maxHeartbeats 4000000
set_option maxRecDepth 8000
/-- What the document's reader takes, and what it leaves. -/
def dk (n : Nat) (s : Bs) : Bs := if s.length < n then [] else s.take n
def dr (n : Nat) (s : Bs) : Bs := if s.length < n then [] else s.drop n
theorem dk_len (n : Nat) (s : Bs) : (dk n s).length ≤ s.length := by unfold dk; split <;> simp; omega
theorem dr_len (n : Nat) (s : Bs) : (dr n s).length ≤ s.length := by unfold dr; split <;> simp
def dkz (z : Int) (s : Bs) : Bs := if z < 0 then [] else dk z.toNat s
def drz (z : Int) (s : Bs) : Bs := if z < 0 then s else dr z.toNat s
/-- A short text. -/
def dsh (s : Bs) : Bs := dkz (nmr (dk 1 s)) (dr 1 s)
def dsr (s : Bs) : Bs := drz (nmr (dk 1 s)) (dr 1 s)
theorem dk_laid (p r : Bs) : dk p.length (p ++ r) = p ∧ dr p.length (p ++ r) = r := by
  unfold dk dr
  rw [if_neg (by simp), if_neg (by simp)]
  simp
theorem nmr_be (n z : Nat) (h1 : 1 ≤ n) (h8 : n ≤ 8) (hz : z < 256 ^ n) (h63 : z < 9223372036854775808) : nmr (be n z) = z := by
  have hl := be_len n z
  have hn : nat (be n z) = z := by rw [nat_be]; exact Nat.mod_eq_of_lt hz
  unfold nmr
  rw [if_neg, hn]
  rintro (q | q | ⟨q, q2⟩)
  · omega
  · omega
  · have := (nat_first (be n z) q).1 (by omega)
    omega
theorem dn_laid (n z : Nat) (r : Bs) (h1 : 1 ≤ n) (h8 : n ≤ 8) (hz : z < 256 ^ n) (h63 : z < 9223372036854775808) : nmr (dk n (be n z ++ r)) = z ∧ dr n (be n z ++ r) = r := by
  have := dk_laid (be n z) r
  rw [be_len] at this
  rw [this.1, this.2]
  exact ⟨nmr_be n z h1 h8 hz h63, rfl⟩
theorem ds_laid (s r : Bs) (hs : s.length ≤ 255) : dsh ((be 1 s.length ++ s) ++ r) = s ∧ dsr ((be 1 s.length ++ s) ++ r) = r := by
  have h := dn_laid 1 s.length (s ++ r) (by decide) (by decide) (by omega) (by omega)
  have g := dk_laid s r
  unfold dsh dsr
  rw [List.append_assoc, h.1, h.2]
  unfold dkz drz
  rw [if_neg (by omega), if_neg (by omega), Int.toNat_natCast, g.1, g.2]
  exact ⟨rfl, rfl⟩
theorem nmr1_le (s : Bs) : nmr (dk 1 s) ≤ 255 := by
  unfold nmr
  split
  · omega
  · have h1 : (dk 1 s).length ≤ 1 := by unfold dk; split <;> simp; omega
    have := nat_lt (dk 1 s)
    have h2 : 256 ^ (dk 1 s).length ≤ 256 ^ 1 := Nat.pow_le_pow_right (by decide) h1
    omega
/-- A row that alone has turned. -/
theorem Kpr.turn {g : Nat} {cs vs : Array Value} {ty : TypeId} {l : List (Nat × Array Value × TypeId)} {W W' : World} (h : Kpr ((g, cs, ty) :: l) W) (hne : ∀ q, q ∈ l → q.1 ≠ g) (ho : Only (fun k => k = g) W W') (hr : W'.heap[g]? = some (.cells vs ty (0, 0))) : Kpr ((g, vs, ty) :: l) W' := fun q hq => by
  rcases List.mem_cons.1 hq with rfl | hq
  · exact hr
  · exact (ho.block _ (lt_of_row (h.tail q hq)) (hne q hq)).trans (h.tail q hq)
def Rd9 (X : Nat) (s : Bs) (w w' : World) : Prop := ∃ b : Bool, w'.heap[X]? = some (.cells #[S s, .bool b] 100 (0, 0)) ∧ Only (fun k => k = X) w w'
theorem rTake93 (X : Nat) (s : Bs) (b : Bool) (n : Nat) (w : World) (_hs : s.length ≤ 9223372036854775807) (_hn : n ≤ 9223372036854775807) (hX : w.heap[X]? = some (.cells #[S s, .bool b] 100 (0, 0))) : Calls Tryz.prog 93 #[ptr X, .int .i64 n] w fun e w' => e = .returned (S (dk n s)) ∧ Rd9 X (dr n s) w w' := by
  have c0 : w.cell? ⟨X, 0, none⟩ = some (S s) := cellr hX rfl
  have c1 : w.cell? ⟨X, 1, none⟩ = some (.bool b) := cellr hX rfl
  have z0 : w.frozen? ⟨X, 0, none⟩ = false := frozen_of_row w X 0 _ _ hX
  have z1 : w.frozen? ⟨X, 1, none⟩ = false := frozen_of_row w X 1 _ _ hX
  by_cases hlt : s.length < n
  · have HE := hide (show dk n s = [] ∧ dr n s = [] by simp [dk, dr, hlt])
    have e1 := heap_setCell_same w X 1 #[S s, .bool b] 100 (.bool true) hX
    have hlt' : (s.length : Int) < (n : Int) := by omega
    have o1 := Only.setCell w ⟨X, 1, none⟩ (.bool true)
    have c0' : (w.setCell ⟨X, 1, none⟩ (.bool true)).cell? ⟨X, 0, none⟩ = some (S s) := cellr e1 rfl
    have z0' : (w.setCell ⟨X, 1, none⟩ (.bool true)).frozen? ⟨X, 0, none⟩ = false := frozen_of_row _ X 0 _ _ e1
    have e2 := heap_setCell_same (w.setCell ⟨X, 1, none⟩ (.bool true)) X 0 _ 100 (S []) e1
    have o2 := Only.setCell (w.setCell ⟨X, 1, none⟩ (.bool true)) ⟨X, 0, none⟩ (S [])
    have HF := hide e2
    have HO := hide (o1.trans o2 (fun _ _ q => q))
    clear hX e1 e2 o1 o2
    generalize hd : dk n s = d1 at *
    generalize he : dr n s = d2 at *
    clear hd he
    go_enter Tryz.func93, Tryz.ntmps93
    go_wp2
    go_ret
    rw [(unhide HE).1, (unhide HE).2]
    exact ⟨rfl, true, unhide HF, unhide HO⟩
  · have HE := hide (show dk n s = s.take n ∧ dr n s = s.drop n by simp [dk, dr, hlt])
    have e2 := heap_setCell_same w X 0 #[S s, .bool b] 100 (S (s.drop n)) hX
    have HO := hide (Only.setCell w ⟨X, 0, none⟩ (S (s.drop n)))
    have HF := hide e2
    have hlt' : ¬ (s.length : Int) < (n : Int) := by omega
    have hle : n ≤ s.length := by omega
    have E1 : (ByteArray.mk s.toArray).extract 0 n = ⟨(s.take n).toArray⟩ := by
      apply ByteArray.ext
      simp [ByteArray.data_extract]
    have E2 : (ByteArray.mk s.toArray).extract n s.length = ⟨(s.drop n).toArray⟩ := by
      apply ByteArray.ext
      apply Array.ext'
      simp [ByteArray.data_extract]
      exact List.take_of_length_le (by simp)
    clear hX e2
    generalize hd : dk n s = d1 at *
    generalize he : dr n s = d2 at *
    clear hd he
    go_enter Tryz.func93, Tryz.ntmps93
    go_wp2
    go_ret
    rw [(unhide HE).1, (unhide HE).2]
    exact ⟨rfl, b, unhide HF, unhide HO⟩
end Go.Proofs.YtpidmpefodnffaaGreatDoor
namespace Go.Proofs.YtpidmpefodnffaaGreatDoor
open Go.RowKit Go.Lib
set_option maxHeartbeats 4000000
set_option maxRecDepth 8000
theorem rNum68 (X : Nat) (s : Bs) (b : Bool) (n : Nat) (w : World) (hs : s.length ≤ 9223372036854775807) (hn : n ≤ 9223372036854775807) (hX : w.heap[X]? = some (.cells #[S s, .bool b] 100 (0, 0))) : Calls Tryz.prog 68 #[ptr X, .int .i64 n] w fun e w' => e = .returned (I (nmr (dk n s))) ∧ Rd9 X (dr n s) w w' := by
  have H1 := hide (rTake93 X s b n w hs hn hX)
  have H2 := hide (fun W => rNumber_any (dk n s) W (Nat.le_trans (dk_len n s) hs))
  clear hX hs hn
  generalize nmr (dk n s) = z at *
  generalize dk n s = d1 at *
  generalize dr n s = d2 at *
  go_enter Tryz.func68, Tryz.ntmps68
  go_wp2_with fail
  refine (unhide H1).mono ?_
  rintro e w1 ⟨rfl, hr⟩
  have HR := hide hr
  clear hr H1
  go_wp2_with fail
  refine (unhide H2 w1).mono ?_
  rintro e w9 ⟨rfl, hw9⟩
  rw [hw9]
  clear hw9 w9 H2
  go_wp2
  go_ret
  exact ⟨rfl, unhide HR⟩
theorem Rd9.go {X : Nat} {s s' : Bs} {w w1 w2 : World} (h : Rd9 X s w w1) (g : Rd9 X s' w1 w2) : Rd9 X s' w w2 := by
  obtain ⟨b, _, h2⟩ := h
  obtain ⟨b', g1, g2⟩ := g
  exact ⟨b', g1, h2.trans g2 (fun _ _ q => q)⟩
theorem rShort69 (X : Nat) (s : Bs) (b : Bool) (w : World) (hs : s.length ≤ 9223372036854775807) (hX : w.heap[X]? = some (.cells #[S s, .bool b] 100 (0, 0))) : Calls Tryz.prog 69 #[ptr X] w fun e w' => e = .returned (S (dsh s)) ∧ Rd9 X (dsr s) w w' := by
  have H1 := hide (rNum68 X s b 1 w hs (by decide) hX)
  have HE := hide (show dsh s = dkz (nmr (dk 1 s)) (dr 1 s) ∧ dsr s = drz (nmr (dk 1 s)) (dr 1 s) from ⟨rfl, rfl⟩)
  have HL := hide (Nat.le_trans (dr_len 1 s) hs)
  have HN := hide (nmr1_le s)
  clear hX hs
  generalize dsh s = o1 at *
  generalize dsr s = o2 at *
  generalize nmr (dk 1 s) = z at *
  generalize dr 1 s = d2 at *
  go_enter Tryz.func69, Tryz.ntmps69
  go_wp2_with fail
  refine (unhide H1).mono ?_
  rintro e w1 ⟨rfl, hr⟩
  have HR := hide hr
  clear hr H1
  by_cases hz : z < 0
  · have HV := hide (show o1 = [] ∧ o2 = d2 by rw [(unhide HE).1, (unhide HE).2]; simp [dkz, drz, hz])
    clear HE HL HN
    go_wp2
    go_ret
    rw [(unhide HV).1, (unhide HV).2]
    exact ⟨rfl, unhide HR⟩
  · have HV := hide (show o1 = dk z.toNat d2 ∧ o2 = dr z.toNat d2 by rw [(unhide HE).1, (unhide HE).2]; simp [dkz, drz, hz])
    obtain ⟨b', hr1, _⟩ := unhide HR
    have H3 := rTake93 X d2 b' z.toNat w1 (unhide HL) (by have := unhide HN; omega) hr1
    rw [Int.toNat_of_nonneg (by omega)] at H3
    have H4 := hide H3
    clear H3 hr1 HE HL HN
    go_wp2_with fail
    refine (unhide H4).mono ?_
    rintro e w2 ⟨rfl, hr⟩
    have HR2 := hide ((unhide HR).go hr)
    clear hr H4 HR
    go_wp2
    go_ret
    rw [(unhide HV).1, (unhide HV).2]
    exact ⟨rfl, unhide HR2⟩
theorem rSame71 (a b c d : Bs) (w : World) : Calls Tryz.prog 71 #[.agg #[S a, S b], .agg #[S c, S d]] w fun e w' => e = .returned (.bool (a == c && b == d)) ∧ Below w.heap.size w w' := by
  have HB := hide (((Below.refl _ w).alloc (Nat.le_refl _) (.cells #[S a, S b] 30)).alloc (by simp) (.cells #[S c, S d] 30))
  have K := (show Kpr [] w from fun q hq => by cases hq).add #[S a, S b] 30 |>.add #[S c, S d] 30
  have hsz : (w.alloc (.cells #[S a, S b] 30)).heap.size = w.heap.size + 1 := by simp
  rw [hsz] at K
  have x0 : ((w.alloc (.cells #[S a, S b] 30)).alloc (.cells #[S c, S d] 30)).cell? ⟨w.heap.size, 0, none⟩ = some (S a) := cellr K.tail.r0 rfl
  have x1 : ((w.alloc (.cells #[S a, S b] 30)).alloc (.cells #[S c, S d] 30)).cell? ⟨w.heap.size, 1, none⟩ = some (S b) := cellr K.tail.r0 rfl
  have y0 : ((w.alloc (.cells #[S a, S b] 30)).alloc (.cells #[S c, S d] 30)).cell? ⟨w.heap.size + 1, 0, none⟩ = some (S c) := cellr K.r0 rfl
  have y1 : ((w.alloc (.cells #[S a, S b] 30)).alloc (.cells #[S c, S d] 30)).cell? ⟨w.heap.size + 1, 1, none⟩ = some (S d) := cellr K.r0 rfl
  clear K hsz
  generalize hW1 : (w.alloc (.cells #[S a, S b] 30)).alloc (.cells #[S c, S d] 30) = W1 at *
  by_cases h1 : a = c
  · subst h1
    by_cases h2 : b = d
    · subst h2
      go_enter Tryz.func71, Tryz.ntmps71
      go_wp2
      go_ret
      exact ⟨ret_bool (by simp), unhide HB⟩
    · have g2 : (b == d) = false := by simpa using h2
      go_enter Tryz.func71, Tryz.ntmps71
      go_wp2
      go_ret
      exact ⟨ret_bool (by simp [h2]), unhide HB⟩
  · have g1 : (a == c) = false := by simpa using h1
    go_enter Tryz.func71, Tryz.ntmps71
    go_wp2
    go_ret
    exact ⟨ret_bool (by simp [h1]), unhide HB⟩
end Go.Proofs.YtpidmpefodnffaaGreatDoor
namespace Go.Proofs.YtpidmpefodnffaaGreatDoor
open Go.RowKit Go.Lib
theorem run_geq (x y : Bs) (W : World) : (binOp .geq 9 (S x) (S y)).run Tryz.prog W = .ok (.bool (decide (¬ x < y))) W := by
  have e : (!Op.bytesLess (ByteArray.mk x.toArray).toList (ByteArray.mk y.toArray).toList) = decide (¬ x < y) := by
    have e1 : ∀ z : Bs, (ByteArray.mk z.toArray).toList = z := fun z => by simp [ByteArray.toList_eq]
    rw [e1, e1, less_eq, Bool.eq_iff_iff]
    simp only [Bool.not_eq_true', decide_eq_false_iff_not, decide_eq_true_eq]
  rw [← e]
  rfl
theorem tl17 : ∀ {l : List Bs}, (∀ x ∈ l, nm x = true) → (tl l).length ≤ 17 * l.length
  | [], _ => by simp [tl]
  | a :: r, h => by
    have h1 := tl17 (l := r) (fun x hx => h x (List.mem_cons_of_mem _ hx))
    have h2 : a.length ≤ 16 := by
      have := h a (List.mem_cons_self ..)
      simp [nm] at this
      exact this.1.2
    simp [tl]
    omega
theorem tx17 {l : List Bs} (h : okl l = true) : (tx l).length ≤ 17 * l.length := by
  have := tl17 (okl_iff.1 h).1
  have e := tx_tl l
  omega
theorem right_okl (l : List Bs) : right l = (okl l && !many l) := by
  unfold right
  rw [wr_eq]
  unfold tm
  cases okl l <;> cases many l <;> rfl
theorem bel_q {B : Nat} {w wr : World} (h : Below B w wr) (q : Nat) : Below B w (wr.drewN q) := h.trans ⟨rfl, rfl, rfl, Nat.le_refl _, fun _ _ => rfl⟩
set_option maxHeartbeats 8000000 in
set_option maxRecDepth 8000 in
theorem rScope139 (a : Option Addr) (n cap : Nat) (l : List Bs) (w : World) (hp : Sts w a n l) (hn : n ≤ 140737488355000) (hL : Lns l) :
    Calls Tryz.prog 139 #[.slice a n cap] w fun e w' => e = .returned (.bool (right l)) ∧ Below w.heap.size w w' := by
  have HP := hide hp
  have HN := hide hp.1
  have HL := hide hL
  have HRE := hide (right_okl l)
  clear hp hL
  generalize right l = RR at *
  go_enter Tryz.func139, Tryz.ntmps139
  go_wp2
  go_loopw [3, 4] (fun a9 i wr => ∃ k : Nat, k ≤ n ∧ i = .int .i64 k ∧ a9 = .int .i64 ((tx (l.take k)).length : Nat) ∧ okl (l.take k) = true ∧ Below w.heap.size w wr) (fun _ i _ => n - (Go.RowKit.intOf i).toNat)
  case atStart => exact ⟨0, by omega, rfl, rfl, rfl, Below.refl _ _⟩
  case round =>
    obtain ⟨k, hk, rfl, rfl, hok, hbr⟩ := hrel
    have hb17 := tx17 hok
    rw [List.length_take, Nat.min_eq_left (by have := unhide HN; omega)] at hb17
    by_cases hlt : k < n
    · obtain ⟨p, o, rfl, hpl, hc0⟩ := ((unhide HP).below hbr).at hlt
      have hkl : k < l.length := by have := unhide HN; omega
      have HOK := hide hok
      have hlt' : (k : Int) < (n : Int) := by omega
      have HNM := hide (refName_any (l.getD k []) wr (unhide HL k))
      have HNO := hide (okl_nm k hkl)
      have HST := hide (okl_step k hkl hok)
      have HB := hide hbr
      have HQ : Hid (nm (l.getD k []) = true → (l.getD k []).length ≤ 16) := hide (fun h => by simp [nm] at h; exact h.1.2)
      clear hok
      by_cases h0 : k = 0
      · subst h0
        have HT := hide (tx_first l hkl)
        rw [Nat.add_zero] at hc0
        generalize l.getD 0 [] = x at *
        cases hx : nm x
        · rw [hx] at HNM
          have HR := hide (show RR = false by rw [unhide HRE, unhide HNO hx]; rfl)
          clear HNO HST HOK hx hbr HT HQ
          go_wp2_with (first | (go_at_call 110; refine (unhide HNM).mono ?_; rintro e w2 ⟨rfl, rfl⟩) | fail)
          go_quiet (fail)
          have HB2 := hide (bel_q (unhide HB) nq)
          generalize w2.drewN nq = wv at *
          go_wp2
          go_ret
          exact ⟨by rw [unhide HR]; rfl, unhide HB2⟩
        · rw [hx] at HNM
          have HR := hide (unhide HST hx (fun h => absurd h (Nat.lt_irrefl 0)))
          have hl16 := unhide HQ hx
          clear HNO HST HOK hx hbr HQ
          go_wp2_with (first | (go_at_call 110; refine (unhide HNM).mono ?_; rintro e w2 ⟨rfl, rfl⟩) | fail)
          go_quiet (fail)
          have HB2 := hide (bel_q (unhide HB) nq)
          have hc0' : (w2.drewN nq).cell? ⟨p, o, none⟩ = some (S x) := hc0
          generalize w2.drewN nq = wv at *
          go_wp2
          refine ⟨⟨1, by omega, by go_num, ?_, unhide HR, unhide HB2⟩, by simp [Go.RowKit.intOf]; omega⟩
          rw [unhide HT]
          simp [tx]
          exact IntWalk.wrap64_in _ (by omega)
      · obtain ⟨k, rfl⟩ : ∃ m, k = m + 1 := ⟨k - 1, by omega⟩
        have h0' : decide ((0 : Int) < ((k + 1 : Nat) : Int)) = true := by rw [decide_eq_true_eq]; omega
        obtain ⟨p', o', e1, _, hc1⟩ := ((unhide HP).below hbr).at (show k < n by omega)
        cases e1
        have HUP := hide (okl_up (k + 1) hkl (by omega))
        have HT := hide (tx_step l (k + 1) hkl (by omega))
        rw [Nat.add_sub_cancel] at HUP HST
        generalize l.getD (k + 1) [] = x at *
        generalize l.getD k [] = y at *
        cases hx : nm x
        · rw [hx] at HNM
          have HR := hide (show RR = false by rw [unhide HRE, unhide HNO hx]; rfl)
          clear HNO HST HOK hx HUP hbr HT HQ
          go_wp2_with (first | (go_at_call 110; refine (unhide HNM).mono ?_; rintro e w2 ⟨rfl, rfl⟩) | fail)
          go_quiet (fail)
          have HB2 := hide (bel_q (unhide HB) nq)
          generalize w2.drewN nq = wv at *
          go_wp2
          go_ret
          exact ⟨by rw [unhide HR]; rfl, unhide HB2⟩
        · rw [hx] at HNM
          have HR := hide (unhide HST hx)
          have hl16 := unhide HQ hx
          have hq : ∀ W, (binOp .geq 9 (S y) (S x)).run Tryz.prog W = .ok (.bool (decide (¬ y < x))) W := run_geq y x
          clear HNO HST HOK hx hbr HQ
          by_cases hxy : y < x
          · rw [show decide (¬ y < x) = false by simp [hxy]] at hq
            have HR2 := hide (unhide HR (fun _ => hxy))
            clear HR HUP hxy
            go_wp2_with (first | (go_at_call 110; refine (unhide HNM).mono ?_; rintro e w2 ⟨rfl, rfl⟩) | fail)
            go_quiet (fail)
            have HB2 := hide (bel_q (unhide HB) nq)
            have hc0' : (w2.drewN nq).cell? ⟨p, o + (k + 1), none⟩ = some (S x) := hc0
            generalize w2.drewN nq = wv at *
            go_wp2
            refine ⟨⟨k + 1 + 1, by omega, by go_num, ?_, unhide HR2, unhide HB2⟩, by simp [Go.RowKit.intOf]; omega⟩
            rw [unhide HT]
            simp
            omega
          · rw [show decide (¬ y < x) = true by simp [hxy]] at hq
            have HR2 := hide (show RR = false by rw [unhide HRE, unhide HUP hxy]; rfl)
            clear HR HUP hxy HT
            go_wp2_with (first | (go_at_call 110; refine (unhide HNM).mono ?_; rintro e w2 ⟨rfl, rfl⟩) | fail)
            go_quiet (fail)
            have HB2 := hide (bel_q (unhide HB) nq)
            generalize w2.drewN nq = wv at *
            go_wp2
            go_ret
            exact ⟨by rw [unhide HR2]; rfl, unhide HB2⟩
    · have hd : ¬ (k : Int) < (n : Int) := by omega
      have e : l.take k = l := List.take_of_length_le (by have := unhide HN; omega)
      rw [e] at hok hb17 ⊢
      have HM : Hid (RR = (decide (n ≤ 8) && decide ((tx l).length ≤ 60))) := hide (by
        rw [unhide HRE, hok, Bool.true_and]
        unfold many
        have := unhide HN
        rw [Bool.eq_iff_iff]
        simp
        omega)
      have HB := hide hbr
      clear hok e hbr
      generalize (tx l).length = m at *
      by_cases h8 : n ≤ 8
      · have h8' : (n : Int) ≤ 8 := by omega
        go_wp2
        go_ret
        exact ⟨ret_bool (by rw [unhide HM, Bool.eq_iff_iff]; simp [h8]; omega), unhide HB⟩
      · have h8' : ¬ (n : Int) ≤ 8 := by omega
        go_wp2
        go_ret
        exact ⟨ret_bool (by rw [unhide HM]; simp [h8]), unhide HB⟩
end Go.Proofs.YtpidmpefodnffaaGreatDoor
namespace Go.Proofs.YtpidmpefodnffaaGreatDoor
open Go.RowKit Go.Lib
def prt (s : Bs) : List Bs := if s = [] then [] else spl s
theorem prt_tx {l : List Bs} (h : right l = true) : prt (tx l) = l := by
  unfold prt
  by_cases q : l = []
  · subst q; rfl
  · have hn := (right_iff.1 h).1
    rw [if_neg (tx_ne q hn), spl_tx q hn]
theorem ba_cut (s : Bs) (a b : Nat) : (ByteArray.mk s.toArray).extract a b = ⟨((s.drop a).take (b - a)).toArray⟩ := by
  apply ByteArray.ext
  simp [ByteArray.data_extract]
theorem spl_hit (t : Bs) (k : Nat) (hk : k < t.length) (hno : ∀ c ∈ t.take k, c ≠ 32) (h32 : t[k] = 32) : spl t = t.take k :: spl (t.drop (k + 1)) := by
  have e : t = t.take k ++ 32 :: t.drop (k + 1) := by
    conv => lhs; rw [← List.take_append_drop k t]
    rw [List.drop_eq_getElem_cons hk, h32]
  conv => lhs; rw [e]
  exact spl_word hno _
/-- One more text at the end of a row of one's own. -/
theorem pushS {ops : Array Oper} {rest : List Oper} {o : Oper} {a : Act} {w : World} {Q : Exit → Act → World → Prop} (hgd : o.guard = none) (s x : Operand)
    (ho : o.op = .call { callee := .builtin .append, args := #[s, x], argTypes := #[22, 22] }) (B : Nat) (v : Value) (l : List Bs) (hs : a.eval s = v) (w0 : World) (hown : OwnS B w0 v l) (y : Bs) (hw : w = w0.alloc (.cells #[S y] 9)) (hx : a.eval x = .slice (some ⟨w0.heap.size, 0, none⟩) 1 1) (hn : l.length ≤ 1000000000000) (hB : B ≤ w0.heap.size)
    (h : ∀ v' w', OwnS B w' v' (l ++ [y]) → (∀ b w1, b ≤ B → Below b w1 w0 → Below b w1 w') → wpList Tryz.prog ops Q rest (a.put o.dst v') w') : wpList Tryz.prog ops Q (o :: rest) a w := by
  subst hw
  obtain ⟨i0, hi, hz0, hz1, hz2⟩ := info_parts info9
  refine wpList_append_own _ hgd s x 22 ho B 9 i0 (.string ⟨#[]⟩) 1 16 Tryz.underlying22 hi hz0 hz1 hz2 rfl (by decide) v l.length (l.map encStr) hs (World.ownsRow.alloc hown _) ⟨w0.heap.size, 0, none⟩ 1 1 [S y] hx rfl (cell_one_new _ _ _) (by intro u hu; simp at hu; subst hu; rfl) (by unfold maxLen; omega) (by omega) (by simp; omega) ?_
  intro v' w' ho' hg' _
  refine h v' w' ?_ ?_
  · unfold OwnS
    simpa using ho'
  · intro b w1 hb hbel
    have hs : b ≤ w0.heap.size := by omega
    refine (hbel.alloc hs _).grown hg' (by simp; omega) (fun j hj => ?_)
    have := (World.ownsRow.lt (World.ownsRow.alloc hown (.cells #[S y] 9)) j hj).1
    omega
set_option maxHeartbeats 8000000 in
set_option maxRecDepth 8000 in
theorem parts_any (s : Bs) (w : World) (hs : s.length < 4294967281) : Calls Tryz.prog 141 #[S s] w (OutL w (prt s)) := by
  have HPE := hide (show prt s = if s = [] then [] else spl s from rfl)
  generalize prt s = PR at *
  have HE : Hid (spl s = spl s) := hide rfl
  go_enter Tryz.func141, Tryz.ntmps141
  go_wp2
  go_loopw [3, 4, 5] (fun v f i wq => ∃ (k j : Nat) (out : List Bs), k ≤ j ∧ j ≤ s.length ∧ f = .int .i64 k ∧ i = .int .i64 j ∧ out ++ spl (s.drop k) = spl s ∧ out.length ≤ k ∧ (∀ c ∈ (s.drop k).take (j - k), c ≠ 32) ∧ OwnS w.heap.size wq v out ∧ Below w.heap.size w wq) (fun _ _ i _ => s.length - (Go.RowKit.intOf i).toNat)
  case atStart => exact ⟨0, 0, [], by omega, by omega, rfl, rfl, rfl, by simp, by simp, own_nil _ _, Below.refl _ _⟩
  case round =>
    obtain ⟨k, j, out, hkj, hj, rfl, rfl, hsp, hol, hno, hown, hbel⟩ := hrel
    obtain ⟨va, vc, rfl⟩ := hown.form
    have HO := hide hown
    have HB := hide hbel
    have hzB := hbel.size
    have HSP := hide hsp
    have HNO := hide hno
    clear hown hbel hsp hno
    by_cases hlt : j < s.length
    · have hsz : j < (ByteArray.mk s.toArray).size := by simpa [ByteArray.size] using hlt
      have hC : (ByteArray.mk s.toArray)[j]'hsz = s[j] := rfl
      have hlt' : (j : Int) < (s.length : Int) := by omega
      by_cases h32 : s[j] = 32
      · have HH := hide h32
        have hc32 : ((s[j].toNat : Int) == 32) = true := by rw [h32]; rfl
        clear h32
        go_wp2_with (first
          | (at_builtin; refine pushS rfl (.tmp 16) (.tmp 21) rfl w.heap.size (.slice va out.length vc) out (by rfl) wr (unhide HO) ((s.drop k).take (j - k)) (by rw [ba_cut]) (by rfl) (by omega) hzB ?_; intro v2 w2 ho2 hb2; have HO2 := hide ho2; have HB2 := hide (hb2 _ _ (Nat.le_refl _) (unhide HB)); clear ho2 hb2))
        refine ⟨⟨j + 1, j + 1, out ++ [(s.drop k).take (j - k)], by omega, by omega, by go_num, by go_num, ?_, by simp; omega, by simp, unhide HO2, unhide HB2⟩, by simp [Go.RowKit.intOf]; omega⟩
        rw [← unhide HSP]
        have hk2 : j - k < (s.drop k).length := by rw [List.length_drop]; omega
        have e2 : (s.drop k)[j - k] = 32 := by
          rw [List.getElem_drop]
          have e3 : k + (j - k) = j := by omega
          simp only [e3]
          exact unhide HH
        rw [spl_hit (s.drop k) (j - k) hk2 (unhide HNO) e2, List.drop_drop, show k + (j - k + 1) = j + 1 by omega]
        simp
      · have HH := hide h32
        have hc32 : ((s[j].toNat : Int) == 32) = false := by
          rw [beq_eq_false_iff_ne]
          intro e
          have : s[j].toNat = 32 := by omega
          exact h32 (UInt8.toNat_inj.1 this)
        clear h32
        go_wp2
        refine ⟨⟨k, j + 1, out, by omega, by omega, rfl, by go_num, unhide HSP, hol, ?_, unhide HO, unhide HB⟩, by simp [Go.RowKit.intOf]; omega⟩
        have hk2 : j - k < (s.drop k).length := by rw [List.length_drop]; omega
        rw [show j + 1 - k = j - k + 1 by omega, take_snoc _ _ hk2]
        intro c hc
        rcases List.mem_append.1 hc with q | q
        · exact unhide HNO c q
        · rw [List.mem_singleton.1 q, List.getElem_drop]
          have e3 : k + (j - k) = j := by omega
          simp only [e3]
          exact unhide HH
    · have hd : ¬ (j : Int) < (s.length : Int) := by omega
      have hjl : j = s.length := by omega
      have hk' : k ≤ s.length := by omega
      by_cases hz : s = []
      · have HV := hide (show PR = [] by rw [unhide HPE, if_pos hz])
        subst hz
        clear HPE HSP HNO HE
        go_wp2
        go_ret
        rw [unhide HV]
        exact ⟨none, 0, rfl, own_nil _ _, unhide HB⟩
      · have HV := hide (show PR = spl s by rw [unhide HPE, if_neg hz])
        have gz : (s == []) = false := by simpa using hz
        clear HPE
        go_wp2_with (first
          | (at_builtin; refine pushS rfl (.tmp 27) (.tmp 31) rfl w.heap.size (.slice va out.length vc) out (by rfl) wr (unhide HO) (s.drop k) (by rw [ba_cut, List.take_of_length_le (by simp)]) (by rfl) (by omega) hzB ?_; intro v2 w2 ho2 hb2; have HO2 := hide ho2; have HB2 := hide (hb2 _ _ (Nat.le_refl _) (unhide HB)); clear ho2 hb2))
        go_ret
        have e : out ++ [s.drop k] = PR := by
          rw [unhide HV, ← unhide HSP, spl_one]
          have := unhide HNO
          rw [hjl, List.take_of_length_le (by simp)] at this
          exact this
        have ho := unhide HO2
        rw [e] at ho
        obtain ⟨p2, c2, rfl⟩ := ho.form
        exact ⟨p2, c2, rfl, ho, unhide HB2⟩
end Go.Proofs.YtpidmpefodnffaaGreatDoor
namespace Go.Proofs.YtpidmpefodnffaaGreatDoor
open Go.RowKit Go.Lib
set_option maxHeartbeats 4000000
set_option maxRecDepth 8000
/-- What comes out of the reader's scope. -/
def OutQ (X : Nat) (s : Bs) (r : List Bs) (w : World) (e : Ending) (w' : World) : Prop := ∃ a cap, e = .returned (.slice a r.length cap) ∧ OwnS w.heap.size w' (.slice a r.length cap) r ∧ Rd9 X s w w'
theorem dsh_255 (s : Bs) : (dsh s).length ≤ 255 := by
  unfold dsh dkz
  split
  · simp
  · have h := nmr1_le s
    generalize nmr (dk 1 s) = z at *
    unfold dk
    split
    · simp
    · rw [List.length_take]; omega
theorem rSc70 (X : Nat) (s : Bs) (b : Bool) (w : World) (hs : s.length ≤ 9223372036854775807) (hX : w.heap[X]? = some (.cells #[S s, .bool b] 100 (0, 0))) : Calls Tryz.prog 70 #[ptr X] w (OutQ X (dsr s) (prt (dsh s)) w) := by
  have H1 := hide (rShort69 X s b w hs hX)
  have H2 := hide (fun W => parts_any (dsh s) W (by have := dsh_255 s; omega))
  clear hX hs
  generalize prt (dsh s) = r at *
  generalize dsh s = d1 at *
  generalize dsr s = d2 at *
  go_enter Tryz.func70, Tryz.ntmps70
  go_wp2_with fail
  refine (unhide H1).mono ?_
  rintro e w1 ⟨rfl, hr⟩
  have HR := hide hr
  clear hr H1
  go_wp2_with fail
  refine (unhide H2 w1).mono ?_
  rintro e w2 ⟨a, cap, rfl, ho, hb⟩
  have HQ : Hid (OutQ X d2 r w (.returned (.slice a r.length cap)) w2) := hide (by
    obtain ⟨b', h1, h2⟩ := unhide HR
    exact ⟨a, cap, rfl, ho.below (Below.refl _ _) h2.size, b', (hb.block _ (lt_of_row h1)).trans h1, h2.trans (Only.of_below hb) (fun _ _ q => q)⟩)
  clear ho hb HR H2
  go_wp2
  go_ret
  exact unhide HQ
end Go.Proofs.YtpidmpefodnffaaGreatDoor
namespace Go.Proofs.YtpidmpefodnffaaGreatDoor
open Go.RowKit Go.Lib
set_option maxHeartbeats 4000000
set_option maxRecDepth 8000
theorem dsr_len (s : Bs) : (dsr s).length ≤ s.length := by
  unfold dsr drz
  split
  · exact dr_len _ _
  · exact Nat.le_trans (dr_len _ _) (dr_len _ _)
theorem hne3 {A B C D : Nat} (h1 : A ≠ D) (h2 : B ≠ D) (h3 : C ≠ D) {x y z : Array Value × TypeId} : ∀ q, q ∈ [(A, x), (B, y), (C, z)] → q.1 ≠ D := by
  intro q hq
  simp only [List.mem_cons, List.not_mem_nil, or_false] at hq
  rcases hq with rfl | rfl | rfl
  · exact h1
  · exact h2
  · exact h3
theorem Kpr.cellset {g : Nat} {cs : Array Value} {ty : TypeId} {l : List (Nat × Array Value × TypeId)} {W : World} (h : Kpr ((g, cs, ty) :: l) W) (hne : ∀ q, q ∈ l → q.1 ≠ g) (j : Nat) (v : Value) : Kpr ((g, cs.setIfInBounds j v, ty) :: l) (W.setCell ⟨g, j, none⟩ v) := fun q hq => by
  rcases List.mem_cons.1 hq with rfl | hq
  · exact heap_setCell_same W g j _ _ v h.r0
  · exact ((Only.setCell W ⟨g, j, none⟩ v).block _ (lt_of_row (h.tail q hq)) (hne q hq)).trans (h.tail q hq)
theorem bset' {w W : World} (h : Below w.heap.size w W) (g : Nat) (hg : w.heap.size ≤ g) (vs : Array Value) : Below w.heap.size w (W.setRow g vs) := (setRow_Only W g vs).below h h.size (fun k e => by omega)
theorem bcell {w W : World} (h : Below w.heap.size w W) (g : Nat) (hg : w.heap.size ≤ g) (j : Nat) (v : Value) : Below w.heap.size w (W.setCell ⟨g, j, none⟩ v) := (Only.setCell W ⟨g, j, none⟩ v).below h h.size (fun k e => by have : k = g := e; omega)
end Go.Proofs.YtpidmpefodnffaaGreatDoor
namespace Go.Proofs.YtpidmpefodnffaaGreatDoor
open Go.RowKit Go.Lib
set_option maxHeartbeats 4000000
set_option maxRecDepth 8000
def cgA (idl ab li : Int) : Bool := spn idl && (spn ab && spn li)
def cgD (pu : Bool) (ha ol : Bs) (un : Int) : Bool := if pu then (ha == [] && (ol == [] && un == 0)) else if ol == [] then (ha.length == 32 && un == 0) else (ha.length == 32 && ol.length == 32)
theorem cliN (na : Bs) (pu : Bool) (ha ol : Bs) (un : Int) (sc : List Bs) (idl ab gr li : Int) : cliOK na pu ha ol un sc idl ab gr li = (nm na && (right sc && (cgA idl ab li && (tim gr && (tim un && cgD pu ha ol un))))) := by
  have e : secOK pu ha ol un = (tim un && cgD pu ha ol un) := by
    unfold secOK cgD
    by_cases h0 : un = 0
    · subst h0
      have : tim 0 = true := by decide
      rw [this]
      by_cases h1 : ol = []
      · subst h1; cases pu <;> simp
      · have g1 : (ol == []) = false := by simpa using h1
        rw [g1]
        cases pu <;> simp
    · have h0' : (un == 0) = false := by simpa using h0
      rw [h0']
      by_cases h1 : ol = []
      · subst h1; cases pu <;> cases tim un <;> simp
      · have g1 : (ol == []) = false := by simpa using h1
        rw [g1]
        cases pu <;> cases tim un <;> simp
  unfold cliOK cgA
  rw [right_nm, e]
  generalize cgD pu ha ol un = d
  cases nm na <;> cases right sc <;> cases spn idl <;> cases spn ab <;> cases spn li <;> cases tim gr <;> cases tim un <;> cases d <;> rfl
theorem cgAN (idl ab li : Int) : (!cgA idl ab li) = (decide (idl < 1) || decide (1099511627776 < idl) || decide (ab < 1) || decide (1099511627776 < ab) || decide (li < 1) || decide (1099511627776 < li)) := by
  rw [Bool.eq_iff_iff]; unfold cgA spn; simp <;> omega
theorem rMay61 (na : Bs) (pu of9 : Bool) (ha ol : Bs) (un : Int) (va : Option Addr) (vc : Nat) (sc : List Bs) (idl ab gr li : Int) (w : World) (hna : na.length ≤ 9223372036854775807) (hsc : Sts w va sc.length sc) (hsl : sc.length ≤ 140737488355000) (hln : Lns sc) : Calls Tryz.prog 61 #[.agg #[S na, .bool pu, .bool of9, S ha, S ol, I un, .slice va sc.length vc, I idl, I ab, I gr, I li]] w fun e w' => e = .returned (.bool (cliOK na pu ha ol un sc idl ab gr li)) ∧ Below w.heap.size w w' := by
  have hB0 : Below w.heap.size w (w.alloc (.cells #[S na, .bool pu, .bool of9, S ha, S ol, I un, .slice va sc.length vc, I idl, I ab, I gr, I li] 24)) := (Below.refl _ w).alloc (Nat.le_refl _) _
  have hT := heap_alloc_new w (.cells #[S na, .bool pu, .bool of9, S ha, S ol, I un, .slice va sc.length vc, I idl, I ab, I gr, I li] 24)
  have c0 : (w.alloc (.cells #[S na, .bool pu, .bool of9, S ha, S ol, I un, .slice va sc.length vc, I idl, I ab, I gr, I li] 24)).cell? ⟨w.heap.size, 0, none⟩ = some (S na) := cellr hT rfl
  have c1 : (w.alloc (.cells #[S na, .bool pu, .bool of9, S ha, S ol, I un, .slice va sc.length vc, I idl, I ab, I gr, I li] 24)).cell? ⟨w.heap.size, 1, none⟩ = some (.bool pu) := cellr hT rfl
  have c2 : (w.alloc (.cells #[S na, .bool pu, .bool of9, S ha, S ol, I un, .slice va sc.length vc, I idl, I ab, I gr, I li] 24)).cell? ⟨w.heap.size, 2, none⟩ = some (.bool of9) := cellr hT rfl
  have c3 : (w.alloc (.cells #[S na, .bool pu, .bool of9, S ha, S ol, I un, .slice va sc.length vc, I idl, I ab, I gr, I li] 24)).cell? ⟨w.heap.size, 3, none⟩ = some (S ha) := cellr hT rfl
  have c4 : (w.alloc (.cells #[S na, .bool pu, .bool of9, S ha, S ol, I un, .slice va sc.length vc, I idl, I ab, I gr, I li] 24)).cell? ⟨w.heap.size, 4, none⟩ = some (S ol) := cellr hT rfl
  have c5 : (w.alloc (.cells #[S na, .bool pu, .bool of9, S ha, S ol, I un, .slice va sc.length vc, I idl, I ab, I gr, I li] 24)).cell? ⟨w.heap.size, 5, none⟩ = some (I un) := cellr hT rfl
  have c6 : (w.alloc (.cells #[S na, .bool pu, .bool of9, S ha, S ol, I un, .slice va sc.length vc, I idl, I ab, I gr, I li] 24)).cell? ⟨w.heap.size, 6, none⟩ = some (.slice va sc.length vc) := cellr hT rfl
  have c7 : (w.alloc (.cells #[S na, .bool pu, .bool of9, S ha, S ol, I un, .slice va sc.length vc, I idl, I ab, I gr, I li] 24)).cell? ⟨w.heap.size, 7, none⟩ = some (I idl) := cellr hT rfl
  have c8 : (w.alloc (.cells #[S na, .bool pu, .bool of9, S ha, S ol, I un, .slice va sc.length vc, I idl, I ab, I gr, I li] 24)).cell? ⟨w.heap.size, 8, none⟩ = some (I ab) := cellr hT rfl
  have c9 : (w.alloc (.cells #[S na, .bool pu, .bool of9, S ha, S ol, I un, .slice va sc.length vc, I idl, I ab, I gr, I li] 24)).cell? ⟨w.heap.size, 9, none⟩ = some (I gr) := cellr hT rfl
  have c10 : (w.alloc (.cells #[S na, .bool pu, .bool of9, S ha, S ol, I un, .slice va sc.length vc, I idl, I ab, I gr, I li] 24)).cell? ⟨w.heap.size, 10, none⟩ = some (I li) := cellr hT rfl
  have XS := hide (rScope139 va sc.length vc sc (w.alloc (.cells #[S na, .bool pu, .bool of9, S ha, S ol, I un, .slice va sc.length vc, I idl, I ab, I gr, I li] 24)) (hsc.bel hB0) hsl hln)
  generalize hW1 : (w.alloc (.cells #[S na, .bool pu, .bool of9, S ha, S ol, I un, .slice va sc.length vc, I idl, I ab, I gr, I li] 24)) = W1 at *
  have HB := hide hB0
  have HT := hide hT
  clear hB0 hT hsc hsl hln
  have HKE := hide (cliN na pu ha ol un sc idl ab gr li)
  have HGA := hide (cgAN idl ab li)
  have HGD := hide (show cgD pu ha ol un = if pu then (ha == [] && (ol == [] && un == 0)) else if ol == [] then (ha.length == 32 && un == 0) else (ha.length == 32 && ol.length == 32) from rfl)
  have XC0 := hide (fun W => refName_any na W hna)
  have XC2 := hide (fun W => rTime_any gr W)
  have XC3 := hide (fun W => rTime_any un W)
  clear hna
  generalize cliOK na pu ha ol un sc idl ab gr li = R at *
  generalize cgA idl ab li = gA at *
  generalize cgD pu ha ol un = gD at *
  generalize nm na = b0 at *
  generalize right sc = b1 at *
  generalize tim gr = b2 at *
  generalize tim un = b3 at *
  go_enter Tryz.func61, Tryz.ntmps61
  go_wp2_with fail
  refine (unhide XC0 W1).mono ?_
  rintro e w9 ⟨rfl, hw9⟩
  rw [hw9]
  clear hw9 w9 XC0
  go_wp2_with fail
  refine (unhide XS).mono ?_
  rintro e W2 ⟨rfl, hb⟩
  have HB2 := hide ((unhide HB).trans (hb.mono (unhide HB).size))
  have HT2 := hide ((hb.block _ (lt_of_row (unhide HT))).trans (unhide HT))
  clear hb XS HB HT hW1 c0 c1 c2 c3 c4 c5 c6 c7 c8 c9 c10
  have c0 : W2.cell? ⟨w.heap.size, 0, none⟩ = some (S na) := cellr (unhide HT2) rfl
  have c1 : W2.cell? ⟨w.heap.size, 1, none⟩ = some (.bool pu) := cellr (unhide HT2) rfl
  have c2 : W2.cell? ⟨w.heap.size, 2, none⟩ = some (.bool of9) := cellr (unhide HT2) rfl
  have c3 : W2.cell? ⟨w.heap.size, 3, none⟩ = some (S ha) := cellr (unhide HT2) rfl
  have c4 : W2.cell? ⟨w.heap.size, 4, none⟩ = some (S ol) := cellr (unhide HT2) rfl
  have c5 : W2.cell? ⟨w.heap.size, 5, none⟩ = some (I un) := cellr (unhide HT2) rfl
  have c6 : W2.cell? ⟨w.heap.size, 6, none⟩ = some (.slice va sc.length vc) := cellr (unhide HT2) rfl
  have c7 : W2.cell? ⟨w.heap.size, 7, none⟩ = some (I idl) := cellr (unhide HT2) rfl
  have c8 : W2.cell? ⟨w.heap.size, 8, none⟩ = some (I ab) := cellr (unhide HT2) rfl
  have c9 : W2.cell? ⟨w.heap.size, 9, none⟩ = some (I gr) := cellr (unhide HT2) rfl
  have c10 : W2.cell? ⟨w.heap.size, 10, none⟩ = some (I li) := cellr (unhide HT2) rfl
  go_upto_region 3 with fail
  go_cut [48] from 13 to 48 (fun v wc => v = .bool (!(b0 && (b1 && gA))) ∧ wc = W2)
  case first =>
    clear HKE HB2 HT2 HGD XC2 XC3
    cases b0
    · clear HGA
      go_wp2
      go_meet
      exact ⟨rfl, rfl⟩
    cases b1
    · clear HGA
      go_wp2
      go_meet
      exact ⟨rfl, rfl⟩
    by_cases h0 : idl < 1
    · have HV := hide (show true = !gA by rw [unhide HGA]; simp [h0])
      clear HGA
      go_wp2
      go_meet
      exact ⟨congrArg Value.bool (unhide HV), rfl⟩
    by_cases h1 : 1099511627776 < idl
    · have HV := hide (show true = !gA by rw [unhide HGA]; simp [h1])
      clear HGA
      go_wp2
      go_meet
      exact ⟨congrArg Value.bool (unhide HV), rfl⟩
    by_cases h2 : ab < 1
    · have HV := hide (show true = !gA by rw [unhide HGA]; simp [h2])
      clear HGA
      go_wp2
      go_meet
      exact ⟨congrArg Value.bool (unhide HV), rfl⟩
    by_cases h3 : 1099511627776 < ab
    · have HV := hide (show true = !gA by rw [unhide HGA]; simp [h3])
      clear HGA
      go_wp2
      go_meet
      exact ⟨congrArg Value.bool (unhide HV), rfl⟩
    by_cases h4 : li < 1
    · have HV := hide (show true = !gA by rw [unhide HGA]; simp [h4])
      clear HGA
      go_wp2
      go_meet
      exact ⟨congrArg Value.bool (unhide HV), rfl⟩
    by_cases h5 : 1099511627776 < li
    · have HV := hide (show true = !gA by rw [unhide HGA]; simp [h5])
      clear HGA
      go_wp2
      go_meet
      exact ⟨congrArg Value.bool (unhide HV), rfl⟩
    have HV := hide (show false = !gA by rw [unhide HGA]; simp [h0, h1, h2, h3, h4, h5])
    clear HGA
    go_wp2
    go_meet
    exact ⟨congrArg Value.bool (unhide HV), rfl⟩
  case rest =>
  obtain ⟨rfl, hwc⟩ := hcut
  rw [hwc]
  clear hwc HGA
  cases hc : (b0 && (b1 && gA))
  · have HR : Hid (R = false) := hide (by rw [unhide HKE, ← Bool.and_assoc b1, ← Bool.and_assoc b0, hc]; rfl)
    clear HKE hc HGD XC2 XC3
    go_wp2
    go_ret
    exact ⟨ret_bool (unhide HR).symm, unhide HB2⟩
  have HK2 : Hid (R = (b2 && (b3 && gD))) := hide (by rw [unhide HKE, ← Bool.and_assoc b1, ← Bool.and_assoc b0, hc]; rfl)
  clear HKE hc
  go_wp2_with fail
  refine (unhide XC2 W2).mono ?_
  rintro e w9 ⟨rfl, hw9⟩
  rw [hw9]
  clear hw9 w9 XC2
  go_wp2_with fail
  refine (unhide XC3 W2).mono ?_
  rintro e w9 ⟨rfl, hw9⟩
  rw [hw9]
  clear hw9 w9 XC3
  cases b2
  ·
    have HV := hide (show R = false by rw [unhide HK2]; rfl)
    clear HK2 HGD
    go_wp2
    go_ret
    exact ⟨ret_bool (unhide HV).symm, unhide HB2⟩
  cases b3
  ·
    have HV := hide (show R = false by rw [unhide HK2]; rfl)
    clear HK2 HGD
    go_wp2
    go_ret
    exact ⟨ret_bool (unhide HV).symm, unhide HB2⟩
  cases pu
  ·
    by_cases h1 : ol = []
    · subst h1
      by_cases h2 : ha.length = 32
      · have g2 : ((ha.length : Int) == 32) = true := by rw [beq_iff_eq]; omega
        by_cases h3 : un = 0
        · subst h3
          have HV := hide (show R = true by rw [unhide HK2, unhide HGD]; simp [h2])
          clear HK2 HGD
          go_wp2
          go_ret
          exact ⟨ret_bool (unhide HV).symm, unhide HB2⟩
        · have g3 : (un == 0) = false := by simpa using h3
          have HV := hide (show R = false by rw [unhide HK2, unhide HGD]; simp [h3])
          clear HK2 HGD
          go_wp2
          go_ret
          exact ⟨ret_bool (unhide HV).symm, unhide HB2⟩
      · have g2 : ((ha.length : Int) == 32) = false := by rw [beq_eq_false_iff_ne]; omega
        have HV := hide (show R = false by rw [unhide HK2, unhide HGD]; simp [h2])
        clear HK2 HGD
        go_wp2
        go_ret
        exact ⟨ret_bool (unhide HV).symm, unhide HB2⟩
    · have g1 : (ol == []) = false := by simpa using h1
      by_cases h2 : ha.length = 32
      · have g2 : ((ha.length : Int) == 32) = true := by rw [beq_iff_eq]; omega
        by_cases h3 : ol.length = 32
        · have g3 : ((ol.length : Int) == 32) = true := by rw [beq_iff_eq]; omega
          have HV := hide (show R = true by rw [unhide HK2, unhide HGD]; simp [h1, h2, h3])
          clear HK2 HGD
          go_wp2
          go_ret
          exact ⟨ret_bool (unhide HV).symm, unhide HB2⟩
        · have g3 : ((ol.length : Int) == 32) = false := by rw [beq_eq_false_iff_ne]; omega
          have HV := hide (show R = false by rw [unhide HK2, unhide HGD]; simp [h1, h3])
          clear HK2 HGD
          go_wp2
          go_ret
          exact ⟨ret_bool (unhide HV).symm, unhide HB2⟩
      · have g2 : ((ha.length : Int) == 32) = false := by rw [beq_eq_false_iff_ne]; omega
        have HV := hide (show R = false by rw [unhide HK2, unhide HGD]; simp [h1, h2])
        clear HK2 HGD
        go_wp2
        go_ret
        exact ⟨ret_bool (unhide HV).symm, unhide HB2⟩
  ·
    by_cases h1 : ha = []
    · subst h1
      by_cases h2 : ol = []
      · subst h2
        by_cases h3 : un = 0
        · subst h3
          have HV := hide (show R = true by rw [unhide HK2, unhide HGD]; rfl)
          clear HK2 HGD
          go_wp2
          go_ret
          exact ⟨ret_bool (unhide HV).symm, unhide HB2⟩
        · have g3 : (un == 0) = false := by simpa using h3
          have HV := hide (show R = false by rw [unhide HK2, unhide HGD]; simp [h3])
          clear HK2 HGD
          go_wp2
          go_ret
          exact ⟨ret_bool (unhide HV).symm, unhide HB2⟩
      · have g2 : (ol == []) = false := by simpa using h2
        have HV := hide (show R = false by rw [unhide HK2, unhide HGD]; simp [h2])
        clear HK2 HGD
        go_wp2
        go_ret
        exact ⟨ret_bool (unhide HV).symm, unhide HB2⟩
    · have g1 : (ha == []) = false := by simpa using h1
      have HV := hide (show R = false by rw [unhide HK2, unhide HGD]; simp [h1])
      clear HK2 HGD
      go_wp2
      go_ret
      exact ⟨ret_bool (unhide HV).symm, unhide HB2⟩
theorem rFlags63 (na : Bs) (pu of9 : Bool) (ha ol : Bs) (un : Int) (va : Option Addr) (vc : Nat) (sc : List Bs) (idl ab gr li : Int) (w : World) : Calls Tryz.prog 63 #[.agg #[S na, .bool pu, .bool of9, S ha, S ol, I un, .slice va sc.length vc, I idl, I ab, I gr, I li]] w fun e w' => e = .returned (I (bv [pu, of9] : Nat)) ∧ Below w.heap.size w w' := by
  have hB0 : Below w.heap.size w (w.alloc (.cells #[S na, .bool pu, .bool of9, S ha, S ol, I un, .slice va sc.length vc, I idl, I ab, I gr, I li] 24)) := (Below.refl _ w).alloc (Nat.le_refl _) _
  have c1 : (w.alloc (.cells #[S na, .bool pu, .bool of9, S ha, S ol, I un, .slice va sc.length vc, I idl, I ab, I gr, I li] 24)).cell? ⟨w.heap.size, 1, none⟩ = some (.bool pu) := cell_new _ _ _ _ _ rfl
  have c2 : (w.alloc (.cells #[S na, .bool pu, .bool of9, S ha, S ol, I un, .slice va sc.length vc, I idl, I ab, I gr, I li] 24)).cell? ⟨w.heap.size, 2, none⟩ = some (.bool of9) := cell_new _ _ _ _ _ rfl
  generalize hW1 : (w.alloc (.cells #[S na, .bool pu, .bool of9, S ha, S ol, I un, .slice va sc.length vc, I idl, I ab, I gr, I li] 24)) = W1 at *
  have HB := hide hB0
  clear hB0
  cases pu <;> cases of9
  all_goals go_enter Tryz.func63, Tryz.ntmps63
  all_goals go_wp2
  all_goals go_ret
  all_goals exact ⟨rfl, unhide HB⟩
end Go.Proofs.YtpidmpefodnffaaGreatDoor
namespace Go.Proofs.YtpidmpefodnffaaGreatDoor
open Go.RowKit Go.Lib
set_option maxHeartbeats 4000000
set_option maxRecDepth 8000
/-- As Rj, with what has come up ahead of what. -/
structure Rl (w : World) (X : Nat) (cx : Array Value) (tx : TypeId) (R : Nat) (cr : Array Value) (tr : TypeId) (D : List (Nat × Nat)) (c : Unit) (L : Nat → Bool) (W : World) : Prop where
  base : Rj w X cx tx R cr tr c L W
  dep : ∀ d, d ∈ D → L d.1 = true → L d.2 = true
section
variable {w : World} {X : Nat} {cx : Array Value} {tx : TypeId} {R : Nat} {cr : Array Value} {tr : TypeId} {D : List (Nat × Nat)} {c : Unit} {L : Nat → Bool} {W : World}
theorem Rl.link (h : Rl w X cx tx R cr tr D c L W) (i : Nat) (hi : ∀ d, d ∈ D → d.1 = i → L d.2 = true) : Rl w X cx tx R cr tr D c (upd L i) W := ⟨h.base.any _, fun d hd e => by
  rcases upd_or e with q | q
  · exact upd_tr (hi d hd q)
  · exact upd_tr (h.dep d hd q)⟩
theorem Rl.other (h : Rl w X cx tx R cr tr D c L W) (i : Nat) (hi : ∀ d, d ∈ D → d.1 ≠ i) : Rl w X cx tx R cr tr D c (upd L i) W := h.link i (fun d hd e => absurd e (hi d hd))
theorem Rl.call (h : Rl w X cx tx R cr tr D c L W) (i : Nat) (hi : ∀ d, d ∈ D → d.1 ≠ i) {W' : World} (hb : Below W.heap.size W W') : Rl w X cx tx R cr tr D c (upd L i) W' := ⟨h.base.call _ hb, (h.other i hi).dep⟩
end
end Go.Proofs.YtpidmpefodnffaaGreatDoor
namespace Go.Proofs.YtpidmpefodnffaaGreatDoor
open Go.RowKit Go.Lib
set_option maxHeartbeats 4000000
set_option maxRecDepth 8000
def vrrf13a (X : Nat) (va : Option Addr) (vc : Nat) (na : Bs) (pu : Bool) (of9 : Bool) (hq : Bs) (ol : Bs) (un : Int) (sc : List Bs) (idl : Int) (ab : Int) (gr : Int) (li : Int) (fz : Int) (_c : Unit) (i : Nat) : Value := match i with
  | 0 => (.agg #[S na, .bool pu, .bool of9, S hq, S ol, I un, .slice va sc.length vc, I idl, I ab, I gr, I li])
  | 1 => (I fz)
  | 2 => (S (be 1 fz.toNat))
  | 3 => (.pointer (some ⟨X, 3, none⟩))
  | 4 => (S hq)
  | 5 => (S (be 1 hq.length ++ hq))
  | 6 => (S (((be 1 fz.toNat)) ++ ((be 1 hq.length ++ hq))))
  | 7 => (.pointer (some ⟨X, 4, none⟩))
  | 8 => (S ol)
  | 9 => (S (be 1 ol.length ++ ol))
  | 10 => (S (((((be 1 fz.toNat)) ++ ((be 1 hq.length ++ hq)))) ++ ((be 1 ol.length ++ ol))))
  | 11 => (.pointer (some ⟨X, 5, none⟩))
  | 12 => (I un)
  | 13 => (S (be 6 un.toNat))
  | 14 => (S (((((((be 1 fz.toNat)) ++ ((be 1 hq.length ++ hq)))) ++ ((be 1 ol.length ++ ol)))) ++ ((be 6 un.toNat))))
  | 15 => (.pointer (some ⟨X, 6, none⟩))
  | 16 => (.slice va sc.length vc)
  | 17 => (S (tx sc))
  | 18 => (S (be 1 ((tx sc)).length ++ (tx sc)))
  | 19 => (S (((((((((be 1 fz.toNat)) ++ ((be 1 hq.length ++ hq)))) ++ ((be 1 ol.length ++ ol)))) ++ ((be 6 un.toNat)))) ++ ((be 1 ((tx sc)).length ++ (tx sc)))))
  | 20 => (S (((((((((be 1 fz.toNat)) ++ ((be 1 hq.length ++ hq)))) ++ ((be 1 ol.length ++ ol)))) ++ ((be 6 un.toNat)))) ++ ((be 1 ((tx sc)).length ++ (tx sc)))))
  | _ => undef
def rrf13aT : List (Op × Option Tmp × Option (Nat × Bool)) := [
  (.load 24 (.tmp 1), some 11, none),
  (.call { callee := .value (.func 63), args := #[(.tmp 11)], argTypes := #[24] }, some 12, none),
  (.call { callee := .value (.func 62), args := #[(.tmp 12), (.const (I 1))], argTypes := #[3, 3] }, some 13, none),
  (.fieldAddr 24 (.tmp 1) 3, some 14, none),
  (.load 9 (.tmp 14), some 15, none),
  (.call { callee := .value (.func 64), args := #[(.tmp 15)], argTypes := #[9] }, some 16, none),
  (.binOp .add 9 (.tmp 13) (.tmp 16) 9, some 17, none),
  (.fieldAddr 24 (.tmp 1) 4, some 18, none),
  (.load 9 (.tmp 18), some 19, none),
  (.call { callee := .value (.func 64), args := #[(.tmp 19)], argTypes := #[9] }, some 20, none),
  (.binOp .add 9 (.tmp 17) (.tmp 20) 9, some 21, none),
  (.fieldAddr 24 (.tmp 1) 5, some 22, none),
  (.load 3 (.tmp 22), some 23, none),
  (.call { callee := .value (.func 62), args := #[(.tmp 23), (.const (I 6))], argTypes := #[3, 3] }, some 24, none),
  (.binOp .add 9 (.tmp 21) (.tmp 24) 9, some 25, none),
  (.fieldAddr 24 (.tmp 1) 6, some 26, none),
  (.load 22 (.tmp 26), some 27, none),
  (.call { callee := .value (.func 65), args := #[(.tmp 27)], argTypes := #[22] }, some 28, none),
  (.call { callee := .value (.func 64), args := #[(.tmp 28)], argTypes := #[9] }, some 29, none),
  (.binOp .add 9 (.tmp 25) (.tmp 29) 9, some 30, none),
  (.assign (.tmp 30), some 5, none)]
def rrf13aD : List (Nat × Nat) := [(1, 0), (2, 1), (4, 3), (5, 4), (6, 2), (6, 5), (8, 7), (9, 8), (10, 6), (10, 9), (12, 11), (13, 12), (14, 10), (14, 13), (16, 15), (17, 16), (18, 17), (19, 14), (19, 18), (20, 19)]
set_option maxHeartbeats 4000000 in
theorem rrf13a {ops : Array Oper} {id : Nat} {Q : Exit → Act → World → Prop} (X : Nat) (va : Option Addr) (vc : Nat) (na : Bs) (pu : Bool) (of9 : Bool) (hq : Bs) (ol : Bs) (un : Int) (sc : List Bs) (idl : Int) (ab : Int) (gr : Int) (li : Int) (fz : Int) (htab : ops.toList.map (fun o => (o.op, o.dst, o.guard)) = rrf13aT) (hdep : deplB rrf13aD ops = true) (hac : acB ops = true)
    (a0 : Act) (w : World) (hsz : 31 ≤ a0.tmps.size) (o1 : a0.tmps[1]? = some (.pointer (some ⟨X, 0, none⟩)))
    (Wd : Unit → (Nat → Bool) → World → Prop) (h0 : ∃ c, Wd c (fun _ => false) w.drew) (hpure : ∀ i, i ∉ ([1, 2, 5, 9, 13, 17, 18] : List Nat) → ∀ c L W, Wd c L W → Wd c (upd L i) W)
    (r0 : ∀ c L W, Wd c L W → L 0 = false → (Instr.loadAt 24 (.pointer (some ⟨X, 0, none⟩))).run Tryz.prog W = .ok (.agg #[S na, .bool pu, .bool of9, S hq, S ol, I un, .slice va sc.length vc, I idl, I ab, I gr, I li]) W)
    (r1 : ∀ c L W, Wd c L W → L 1 = false → L 0 = true → Calls Tryz.prog 63 #[(.agg #[S na, .bool pu, .bool of9, S hq, S ol, I un, .slice va sc.length vc, I idl, I ab, I gr, I li])] W fun eg w' => ∃ c', (∀ j, L j = true → vrrf13a X va vc na pu of9 hq ol un sc idl ab gr li fz c' j = vrrf13a X va vc na pu of9 hq ol un sc idl ab gr li fz c j) ∧ eg = .returned (vrrf13a X va vc na pu of9 hq ol un sc idl ab gr li fz c' 1) ∧ Wd c' (upd L 1) w')
    (r2 : ∀ c L W, Wd c L W → L 2 = false → L 1 = true → Calls Tryz.prog 62 #[(I fz), (I 1)] W fun eg w' => ∃ c', (∀ j, L j = true → vrrf13a X va vc na pu of9 hq ol un sc idl ab gr li fz c' j = vrrf13a X va vc na pu of9 hq ol un sc idl ab gr li fz c j) ∧ eg = .returned (vrrf13a X va vc na pu of9 hq ol un sc idl ab gr li fz c' 2) ∧ Wd c' (upd L 2) w')
    (r4 : ∀ c L W, Wd c L W → L 4 = false → L 3 = true → (Instr.loadAt 9 (.pointer (some ⟨X, 3, none⟩))).run Tryz.prog W = .ok (S hq) W)
    (r5 : ∀ c L W, Wd c L W → L 5 = false → L 4 = true → Calls Tryz.prog 64 #[(S hq)] W fun eg w' => ∃ c', (∀ j, L j = true → vrrf13a X va vc na pu of9 hq ol un sc idl ab gr li fz c' j = vrrf13a X va vc na pu of9 hq ol un sc idl ab gr li fz c j) ∧ eg = .returned (vrrf13a X va vc na pu of9 hq ol un sc idl ab gr li fz c' 5) ∧ Wd c' (upd L 5) w')
    (r6 : ∀ W, (do eqGuard .add 9 (.tmp 13) (.tmp 16) (S (be 1 fz.toNat)) (S (be 1 hq.length ++ hq)); binOp .add 9 (S (be 1 fz.toNat)) (S (be 1 hq.length ++ hq))).run Tryz.prog W = .ok (S (((be 1 fz.toNat)) ++ ((be 1 hq.length ++ hq)))) W)
    (r8 : ∀ c L W, Wd c L W → L 8 = false → L 7 = true → (Instr.loadAt 9 (.pointer (some ⟨X, 4, none⟩))).run Tryz.prog W = .ok (S ol) W)
    (r9 : ∀ c L W, Wd c L W → L 9 = false → L 8 = true → Calls Tryz.prog 64 #[(S ol)] W fun eg w' => ∃ c', (∀ j, L j = true → vrrf13a X va vc na pu of9 hq ol un sc idl ab gr li fz c' j = vrrf13a X va vc na pu of9 hq ol un sc idl ab gr li fz c j) ∧ eg = .returned (vrrf13a X va vc na pu of9 hq ol un sc idl ab gr li fz c' 9) ∧ Wd c' (upd L 9) w')
    (r10 : ∀ W, (do eqGuard .add 9 (.tmp 17) (.tmp 20) (S (((be 1 fz.toNat)) ++ ((be 1 hq.length ++ hq)))) (S (be 1 ol.length ++ ol)); binOp .add 9 (S (((be 1 fz.toNat)) ++ ((be 1 hq.length ++ hq)))) (S (be 1 ol.length ++ ol))).run Tryz.prog W = .ok (S (((((be 1 fz.toNat)) ++ ((be 1 hq.length ++ hq)))) ++ ((be 1 ol.length ++ ol)))) W)
    (r12 : ∀ c L W, Wd c L W → L 12 = false → L 11 = true → (Instr.loadAt 3 (.pointer (some ⟨X, 5, none⟩))).run Tryz.prog W = .ok (I un) W)
    (r13 : ∀ c L W, Wd c L W → L 13 = false → L 12 = true → Calls Tryz.prog 62 #[(I un), (I 6)] W fun eg w' => ∃ c', (∀ j, L j = true → vrrf13a X va vc na pu of9 hq ol un sc idl ab gr li fz c' j = vrrf13a X va vc na pu of9 hq ol un sc idl ab gr li fz c j) ∧ eg = .returned (vrrf13a X va vc na pu of9 hq ol un sc idl ab gr li fz c' 13) ∧ Wd c' (upd L 13) w')
    (r14 : ∀ W, (do eqGuard .add 9 (.tmp 21) (.tmp 24) (S (((((be 1 fz.toNat)) ++ ((be 1 hq.length ++ hq)))) ++ ((be 1 ol.length ++ ol)))) (S (be 6 un.toNat)); binOp .add 9 (S (((((be 1 fz.toNat)) ++ ((be 1 hq.length ++ hq)))) ++ ((be 1 ol.length ++ ol)))) (S (be 6 un.toNat))).run Tryz.prog W = .ok (S (((((((be 1 fz.toNat)) ++ ((be 1 hq.length ++ hq)))) ++ ((be 1 ol.length ++ ol)))) ++ ((be 6 un.toNat)))) W)
    (r16 : ∀ c L W, Wd c L W → L 16 = false → L 15 = true → (Instr.loadAt 22 (.pointer (some ⟨X, 6, none⟩))).run Tryz.prog W = .ok (.slice va sc.length vc) W)
    (r17 : ∀ c L W, Wd c L W → L 17 = false → L 16 = true → Calls Tryz.prog 65 #[(.slice va sc.length vc)] W fun eg w' => ∃ c', (∀ j, L j = true → vrrf13a X va vc na pu of9 hq ol un sc idl ab gr li fz c' j = vrrf13a X va vc na pu of9 hq ol un sc idl ab gr li fz c j) ∧ eg = .returned (vrrf13a X va vc na pu of9 hq ol un sc idl ab gr li fz c' 17) ∧ Wd c' (upd L 17) w')
    (r18 : ∀ c L W, Wd c L W → L 18 = false → L 17 = true → Calls Tryz.prog 64 #[(S (tx sc))] W fun eg w' => ∃ c', (∀ j, L j = true → vrrf13a X va vc na pu of9 hq ol un sc idl ab gr li fz c' j = vrrf13a X va vc na pu of9 hq ol un sc idl ab gr li fz c j) ∧ eg = .returned (vrrf13a X va vc na pu of9 hq ol un sc idl ab gr li fz c' 18) ∧ Wd c' (upd L 18) w')
    (r19 : ∀ W, (do eqGuard .add 9 (.tmp 25) (.tmp 29) (S (((((((be 1 fz.toNat)) ++ ((be 1 hq.length ++ hq)))) ++ ((be 1 ol.length ++ ol)))) ++ ((be 6 un.toNat)))) (S (be 1 ((tx sc)).length ++ (tx sc))); binOp .add 9 (S (((((((be 1 fz.toNat)) ++ ((be 1 hq.length ++ hq)))) ++ ((be 1 ol.length ++ ol)))) ++ ((be 6 un.toNat)))) (S (be 1 ((tx sc)).length ++ (tx sc)))).run Tryz.prog W = .ok (S (((((((((be 1 fz.toNat)) ++ ((be 1 hq.length ++ hq)))) ++ ((be 1 ol.length ++ ol)))) ++ ((be 6 un.toNat)))) ++ ((be 1 ((tx sc)).length ++ (tx sc))))) W)
    (hend : ∀ c L W, (∀ i, i < 21 → L i = true) → Wd c L W → Q .normal (((((((((((((((((((((a0.put (some 11) (.agg #[S na, .bool pu, .bool of9, S hq, S ol, I un, .slice va sc.length vc, I idl, I ab, I gr, I li])).put (some 12) (I fz)).put (some 13) (S (be 1 fz.toNat))).put (some 14) (.pointer (some ⟨X, 3, none⟩))).put (some 15) (S hq)).put (some 16) (S (be 1 hq.length ++ hq))).put (some 17) (S (((be 1 fz.toNat)) ++ ((be 1 hq.length ++ hq))))).put (some 18) (.pointer (some ⟨X, 4, none⟩))).put (some 19) (S ol)).put (some 20) (S (be 1 ol.length ++ ol))).put (some 21) (S (((((be 1 fz.toNat)) ++ ((be 1 hq.length ++ hq)))) ++ ((be 1 ol.length ++ ol))))).put (some 22) (.pointer (some ⟨X, 5, none⟩))).put (some 23) (I un)).put (some 24) (S (be 6 un.toNat))).put (some 25) (S (((((((be 1 fz.toNat)) ++ ((be 1 hq.length ++ hq)))) ++ ((be 1 ol.length ++ ol)))) ++ ((be 6 un.toNat))))).put (some 26) (.pointer (some ⟨X, 6, none⟩))).put (some 27) (.slice va sc.length vc)).put (some 28) (S (tx sc))).put (some 29) (S (be 1 ((tx sc)).length ++ (tx sc)))).put (some 30) (S (((((((((be 1 fz.toNat)) ++ ((be 1 hq.length ++ hq)))) ++ ((be 1 ol.length ++ ol)))) ++ ((be 6 un.toNat)))) ++ ((be 1 ((tx sc)).length ++ (tx sc)))))).put (some 5) (S (((((((((be 1 fz.toNat)) ++ ((be 1 hq.length ++ hq)))) ++ ((be 1 ol.length ++ ol)))) ++ ((be 6 un.toNat)))) ++ ((be 1 ((tx sc)).length ++ (tx sc)))))) W) : (Code.region id ops true).wp Tryz.prog Q a0 w := by
  let val : Unit → Nat → Value := vrrf13a X va vc na pu of9 hq ol un sc idl ab gr li fz
  have hosz : ops.size = 21 := by
    have := congrArg List.length htab
    simpa [rrf13aT] using this
  have hds : ∀ i s, (rrf13aT[i]?).bind (·.2.1) = some s → dstOf ops i = some s := fun i s hi => by rw [tab_dst htab, hi]
  have hdisB : disL rrf13aT = true := by rfl
  have hdis := disL_of htab hdisB
  have hold : ∀ s, rrf13aT.all (fun x => !(x.2.1 == some s)) = true → (List.range ops.size).all (fun j => !(dstOf ops j == some s)) = true := fun s h => holdL htab s h
  refine region_detX val Wd (hac_of hac) hdis h0 ?_ ?_
  rotate_left
  · intro c L W hall hW
    have := hend c L W (by rw [← hosz]; exact hall) hW
    have e : frm ops a0 (val c) (fun _ => true) ops.size = (((((((((((((((((((((a0.put (some 11) (.agg #[S na, .bool pu, .bool of9, S hq, S ol, I un, .slice va sc.length vc, I idl, I ab, I gr, I li])).put (some 12) (I fz)).put (some 13) (S (be 1 fz.toNat))).put (some 14) (.pointer (some ⟨X, 3, none⟩))).put (some 15) (S hq)).put (some 16) (S (be 1 hq.length ++ hq))).put (some 17) (S (((be 1 fz.toNat)) ++ ((be 1 hq.length ++ hq))))).put (some 18) (.pointer (some ⟨X, 4, none⟩))).put (some 19) (S ol)).put (some 20) (S (be 1 ol.length ++ ol))).put (some 21) (S (((((be 1 fz.toNat)) ++ ((be 1 hq.length ++ hq)))) ++ ((be 1 ol.length ++ ol))))).put (some 22) (.pointer (some ⟨X, 5, none⟩))).put (some 23) (I un)).put (some 24) (S (be 6 un.toNat))).put (some 25) (S (((((((be 1 fz.toNat)) ++ ((be 1 hq.length ++ hq)))) ++ ((be 1 ol.length ++ ol)))) ++ ((be 6 un.toNat))))).put (some 26) (.pointer (some ⟨X, 6, none⟩))).put (some 27) (.slice va sc.length vc)).put (some 28) (S (tx sc))).put (some 29) (S (be 1 ((tx sc)).length ++ (tx sc)))).put (some 30) (S (((((((((be 1 fz.toNat)) ++ ((be 1 hq.length ++ hq)))) ++ ((be 1 ol.length ++ ol)))) ++ ((be 6 un.toNat)))) ++ ((be 1 ((tx sc)).length ++ (tx sc)))))).put (some 5) (S (((((((((be 1 fz.toNat)) ++ ((be 1 hq.length ++ hq)))) ++ ((be 1 ol.length ++ ol)))) ++ ((be 6 un.toNat)))) ++ ((be 1 ((tx sc)).length ++ (tx sc)))))) := by
      rw [hosz]
      simp only [frm, if_true]
      rw [tab_dst htab 0, tab_dst htab 1, tab_dst htab 2, tab_dst htab 3, tab_dst htab 4, tab_dst htab 5, tab_dst htab 6, tab_dst htab 7, tab_dst htab 8, tab_dst htab 9, tab_dst htab 10, tab_dst htab 11, tab_dst htab 12, tab_dst htab 13, tab_dst htab 14, tab_dst htab 15, tab_dst htab 16, tab_dst htab 17, tab_dst htab 18, tab_dst htab 19, tab_dst htab 20]
      rfl
    rw [e]
    exact this
  intro i o ho c L a w' hL hd ha hW
  have hi : i < 21 := by rw [← hosz]; exact (Array.getElem?_eq_some_iff.1 ho).1
  have G : ∀ j s : Nat, (rrf13aT[j]?).bind (·.2.1) = some s → s < 31 → (i, j) ∈ rrf13aD → a.tmps[s]? = some (val c j) := fun j s h1 h2 h3 => frm_at hdis ha j s (hds j s h1) (by omega) (depl_of hdep i j h3 ho hd)
  match i, ho, hL, hi, G with
  | 0, ho, hL, _, G =>
    obtain ⟨hop, hgd⟩ := tab3 htab ho rfl
    have h0 := frm_old ha 1 _ (hold 1 rfl) o1
    exact (dXr ho hgd (hpure 0 (by decide) c L w' hW) (g_load hop (eval_of h0) (r0 c L w' hW hL)))
  | 1, ho, hL, _, G =>
    obtain ⟨hop, hgd⟩ := tab3 htab ho rfl
    have h0 := G 0 11 rfl (by decide) (by decide)
    refine doesX_call ho (wanted_none hgd) 63 #[(.agg #[S na, .bool pu, .bool of9, S hq, S ol, I un, .slice va sc.length vc, I idl, I ab, I gr, I li])] ?_ (r1 c L w' hW hL (depl_of hdep 1 0 (by decide) ho hd))
    rw [run_calls Tryz.func63 (by kernel_rfl) rfl _ _ _ _ hop rfl]
    simp only [List.map_toArray, List.map_cons, List.map_nil, eval_of h0]
    all_goals rfl
  | 2, ho, hL, _, G =>
    obtain ⟨hop, hgd⟩ := tab3 htab ho rfl
    have h0 := G 1 12 rfl (by decide) (by decide)
    refine doesX_call ho (wanted_none hgd) 62 #[(I fz), (I 1)] ?_ (r2 c L w' hW hL (depl_of hdep 2 1 (by decide) ho hd))
    rw [run_calls Tryz.func62 (by kernel_rfl) rfl _ _ _ _ hop rfl]
    simp only [List.map_toArray, List.map_cons, List.map_nil, eval_of h0]
    all_goals rfl
  | 3, ho, hL, _, G =>
    obtain ⟨hop, hgd⟩ := tab3 htab ho rfl
    have h0 := frm_old ha 1 _ (hold 1 rfl) o1
    exact (dXr ho hgd (hpure 3 (by decide) c L w' hW) (g_field hop (eval_of h0) (by kernel_rfl)))
  | 4, ho, hL, _, G =>
    obtain ⟨hop, hgd⟩ := tab3 htab ho rfl
    have h0 := G 3 14 rfl (by decide) (by decide)
    exact (dXr ho hgd (hpure 4 (by decide) c L w' hW) (g_load hop (eval_of h0) (r4 c L w' hW hL (depl_of hdep 4 3 (by decide) ho hd))))
  | 5, ho, hL, _, G =>
    obtain ⟨hop, hgd⟩ := tab3 htab ho rfl
    have h0 := G 4 15 rfl (by decide) (by decide)
    refine doesX_call ho (wanted_none hgd) 64 #[(S hq)] ?_ (r5 c L w' hW hL (depl_of hdep 5 4 (by decide) ho hd))
    rw [run_calls Tryz.func64 (by kernel_rfl) rfl _ _ _ _ hop rfl]
    simp only [List.map_toArray, List.map_cons, List.map_nil, eval_of h0]
    all_goals rfl
  | 6, ho, hL, _, G =>
    obtain ⟨hop, hgd⟩ := tab3 htab ho rfl
    have h0 := G 2 13 rfl (by decide) (by decide)
    have h1 := G 5 16 rfl (by decide) (by decide)
    exact (dXr ho hgd (hpure 6 (by decide) c L w' hW) (g_bin hop (eval_of h0) (eval_of h1) (r6 w')))
  | 7, ho, hL, _, G =>
    obtain ⟨hop, hgd⟩ := tab3 htab ho rfl
    have h0 := frm_old ha 1 _ (hold 1 rfl) o1
    exact (dXr ho hgd (hpure 7 (by decide) c L w' hW) (g_field hop (eval_of h0) (by kernel_rfl)))
  | 8, ho, hL, _, G =>
    obtain ⟨hop, hgd⟩ := tab3 htab ho rfl
    have h0 := G 7 18 rfl (by decide) (by decide)
    exact (dXr ho hgd (hpure 8 (by decide) c L w' hW) (g_load hop (eval_of h0) (r8 c L w' hW hL (depl_of hdep 8 7 (by decide) ho hd))))
  | 9, ho, hL, _, G =>
    obtain ⟨hop, hgd⟩ := tab3 htab ho rfl
    have h0 := G 8 19 rfl (by decide) (by decide)
    refine doesX_call ho (wanted_none hgd) 64 #[(S ol)] ?_ (r9 c L w' hW hL (depl_of hdep 9 8 (by decide) ho hd))
    rw [run_calls Tryz.func64 (by kernel_rfl) rfl _ _ _ _ hop rfl]
    simp only [List.map_toArray, List.map_cons, List.map_nil, eval_of h0]
    all_goals rfl
  | 10, ho, hL, _, G =>
    obtain ⟨hop, hgd⟩ := tab3 htab ho rfl
    have h0 := G 6 17 rfl (by decide) (by decide)
    have h1 := G 9 20 rfl (by decide) (by decide)
    exact (dXr ho hgd (hpure 10 (by decide) c L w' hW) (g_bin hop (eval_of h0) (eval_of h1) (r10 w')))
  | 11, ho, hL, _, G =>
    obtain ⟨hop, hgd⟩ := tab3 htab ho rfl
    have h0 := frm_old ha 1 _ (hold 1 rfl) o1
    exact (dXr ho hgd (hpure 11 (by decide) c L w' hW) (g_field hop (eval_of h0) (by kernel_rfl)))
  | 12, ho, hL, _, G =>
    obtain ⟨hop, hgd⟩ := tab3 htab ho rfl
    have h0 := G 11 22 rfl (by decide) (by decide)
    exact (dXr ho hgd (hpure 12 (by decide) c L w' hW) (g_load hop (eval_of h0) (r12 c L w' hW hL (depl_of hdep 12 11 (by decide) ho hd))))
  | 13, ho, hL, _, G =>
    obtain ⟨hop, hgd⟩ := tab3 htab ho rfl
    have h0 := G 12 23 rfl (by decide) (by decide)
    refine doesX_call ho (wanted_none hgd) 62 #[(I un), (I 6)] ?_ (r13 c L w' hW hL (depl_of hdep 13 12 (by decide) ho hd))
    rw [run_calls Tryz.func62 (by kernel_rfl) rfl _ _ _ _ hop rfl]
    simp only [List.map_toArray, List.map_cons, List.map_nil, eval_of h0]
    all_goals rfl
  | 14, ho, hL, _, G =>
    obtain ⟨hop, hgd⟩ := tab3 htab ho rfl
    have h0 := G 10 21 rfl (by decide) (by decide)
    have h1 := G 13 24 rfl (by decide) (by decide)
    exact (dXr ho hgd (hpure 14 (by decide) c L w' hW) (g_bin hop (eval_of h0) (eval_of h1) (r14 w')))
  | 15, ho, hL, _, G =>
    obtain ⟨hop, hgd⟩ := tab3 htab ho rfl
    have h0 := frm_old ha 1 _ (hold 1 rfl) o1
    exact (dXr ho hgd (hpure 15 (by decide) c L w' hW) (g_field hop (eval_of h0) (by kernel_rfl)))
  | 16, ho, hL, _, G =>
    obtain ⟨hop, hgd⟩ := tab3 htab ho rfl
    have h0 := G 15 26 rfl (by decide) (by decide)
    exact (dXr ho hgd (hpure 16 (by decide) c L w' hW) (g_load hop (eval_of h0) (r16 c L w' hW hL (depl_of hdep 16 15 (by decide) ho hd))))
  | 17, ho, hL, _, G =>
    obtain ⟨hop, hgd⟩ := tab3 htab ho rfl
    have h0 := G 16 27 rfl (by decide) (by decide)
    refine doesX_call ho (wanted_none hgd) 65 #[(.slice va sc.length vc)] ?_ (r17 c L w' hW hL (depl_of hdep 17 16 (by decide) ho hd))
    rw [run_calls Tryz.func65 (by kernel_rfl) rfl _ _ _ _ hop rfl]
    simp only [List.map_toArray, List.map_cons, List.map_nil, eval_of h0]
    all_goals rfl
  | 18, ho, hL, _, G =>
    obtain ⟨hop, hgd⟩ := tab3 htab ho rfl
    have h0 := G 17 28 rfl (by decide) (by decide)
    refine doesX_call ho (wanted_none hgd) 64 #[(S (tx sc))] ?_ (r18 c L w' hW hL (depl_of hdep 18 17 (by decide) ho hd))
    rw [run_calls Tryz.func64 (by kernel_rfl) rfl _ _ _ _ hop rfl]
    simp only [List.map_toArray, List.map_cons, List.map_nil, eval_of h0]
    all_goals rfl
  | 19, ho, hL, _, G =>
    obtain ⟨hop, hgd⟩ := tab3 htab ho rfl
    have h0 := G 14 25 rfl (by decide) (by decide)
    have h1 := G 18 29 rfl (by decide) (by decide)
    exact (dXr ho hgd (hpure 19 (by decide) c L w' hW) (g_bin hop (eval_of h0) (eval_of h1) (r19 w')))
  | 20, ho, hL, _, G =>
    obtain ⟨hop, hgd⟩ := tab3 htab ho rfl
    have h0 := G 19 30 rfl (by decide) (by decide)
    exact (dXr ho hgd (hpure 20 (by decide) c L w' hW) (by rw [run_assign _ _ _ hop]; exact congrArg (fun v => Result.ok (Next.value v) w') (eval_of h0)))
  | (i + 21), ho, hL, hi, _ => exact absurd hi (by omega)
def vrrf13b (X : Nat) (idl : Int) (ab : Int) (gr : Int) (li : Int) (v5 : Bs) (_c : Unit) (i : Nat) : Value := match i with
  | 0 => (S v5)
  | 1 => (.pointer (some ⟨X, 7, none⟩))
  | 2 => (I idl)
  | 3 => (S (be 6 idl.toNat))
  | 4 => (S (v5 ++ ((be 6 idl.toNat))))
  | 5 => (.pointer (some ⟨X, 8, none⟩))
  | 6 => (I ab)
  | 7 => (S (be 6 ab.toNat))
  | 8 => (S (((v5 ++ ((be 6 idl.toNat)))) ++ ((be 6 ab.toNat))))
  | 9 => (.pointer (some ⟨X, 9, none⟩))
  | 10 => (I gr)
  | 11 => (S (be 6 gr.toNat))
  | 12 => (S (((((v5 ++ ((be 6 idl.toNat)))) ++ ((be 6 ab.toNat)))) ++ ((be 6 gr.toNat))))
  | 13 => (.pointer (some ⟨X, 10, none⟩))
  | 14 => (I li)
  | 15 => (S (be 6 li.toNat))
  | 16 => (S (((((((v5 ++ ((be 6 idl.toNat)))) ++ ((be 6 ab.toNat)))) ++ ((be 6 gr.toNat)))) ++ ((be 6 li.toNat))))
  | 17 => (S (((((((v5 ++ ((be 6 idl.toNat)))) ++ ((be 6 ab.toNat)))) ++ ((be 6 gr.toNat)))) ++ ((be 6 li.toNat))))
  | _ => undef
def rrf13bT : List (Op × Option Tmp × Option (Nat × Bool)) := [
  (.move (.tmp 5), some 31, none),
  (.fieldAddr 24 (.tmp 1) 7, some 32, none),
  (.load 3 (.tmp 32), some 33, none),
  (.call { callee := .value (.func 62), args := #[(.tmp 33), (.const (I 6))], argTypes := #[3, 3] }, some 34, none),
  (.binOp .add 9 (.tmp 31) (.tmp 34) 9, some 35, none),
  (.fieldAddr 24 (.tmp 1) 8, some 36, none),
  (.load 3 (.tmp 36), some 37, none),
  (.call { callee := .value (.func 62), args := #[(.tmp 37), (.const (I 6))], argTypes := #[3, 3] }, some 38, none),
  (.binOp .add 9 (.tmp 35) (.tmp 38) 9, some 39, none),
  (.fieldAddr 24 (.tmp 1) 9, some 40, none),
  (.load 3 (.tmp 40), some 41, none),
  (.call { callee := .value (.func 62), args := #[(.tmp 41), (.const (I 6))], argTypes := #[3, 3] }, some 42, none),
  (.binOp .add 9 (.tmp 39) (.tmp 42) 9, some 43, none),
  (.fieldAddr 24 (.tmp 1) 10, some 44, none),
  (.load 3 (.tmp 44), some 45, none),
  (.call { callee := .value (.func 62), args := #[(.tmp 45), (.const (I 6))], argTypes := #[3, 3] }, some 46, none),
  (.binOp .add 9 (.tmp 43) (.tmp 46) 9, some 47, none),
  (.assign (.tmp 47), some 5, none)]
def rrf13bD : List (Nat × Nat) := [(2, 1), (3, 2), (4, 0), (4, 3), (6, 5), (7, 6), (8, 4), (8, 7), (10, 9), (11, 10), (12, 8), (12, 11), (14, 13), (15, 14), (16, 12), (16, 15), (17, 16)]
set_option maxHeartbeats 4000000 in
theorem rrf13b {ops : Array Oper} {id : Nat} {Q : Exit → Act → World → Prop} (X : Nat) (idl : Int) (ab : Int) (gr : Int) (li : Int) (v5 : Bs) (htab : ops.toList.map (fun o => (o.op, o.dst, o.guard)) = rrf13bT) (hdep : deplB rrf13bD ops = true) (hac : acB ops = true)
    (a0 : Act) (w : World) (hsz : 48 ≤ a0.tmps.size) (o1 : a0.tmps[1]? = some (.pointer (some ⟨X, 0, none⟩))) (o5 : a0.tmps[5]? = some (S v5))
    (Wd : Unit → (Nat → Bool) → World → Prop) (h0 : ∃ c, Wd c (fun _ => false) w.drew) (hpure : ∀ i, i ∉ ([3, 4, 7, 8, 11, 12, 15, 16, 17] : List Nat) → ∀ c L W, Wd c L W → Wd c (upd L i) W)
    (e0 : ∀ c L W, Wd c L W → L 0 = false → L 17 = false)
    (r2 : ∀ c L W, Wd c L W → L 2 = false → L 1 = true → (Instr.loadAt 3 (.pointer (some ⟨X, 7, none⟩))).run Tryz.prog W = .ok (I idl) W)
    (r3 : ∀ c L W, Wd c L W → L 3 = false → L 2 = true → Calls Tryz.prog 62 #[(I idl), (I 6)] W fun eg w' => ∃ c', (∀ j, L j = true → vrrf13b X idl ab gr li v5 c' j = vrrf13b X idl ab gr li v5 c j) ∧ eg = .returned (vrrf13b X idl ab gr li v5 c' 3) ∧ Wd c' (upd L 3) w')
    (r4 : ∀ W, (do eqGuard .add 9 (.tmp 31) (.tmp 34) (S v5) (S (be 6 idl.toNat)); binOp .add 9 (S v5) (S (be 6 idl.toNat))).run Tryz.prog W = .ok (S (v5 ++ ((be 6 idl.toNat)))) W)
    (e4 : ∀ c L W, Wd c L W → L 4 = false → L 0 = true → L 3 = true → Wd c (upd L 4) W)
    (r6 : ∀ c L W, Wd c L W → L 6 = false → L 5 = true → (Instr.loadAt 3 (.pointer (some ⟨X, 8, none⟩))).run Tryz.prog W = .ok (I ab) W)
    (r7 : ∀ c L W, Wd c L W → L 7 = false → L 6 = true → Calls Tryz.prog 62 #[(I ab), (I 6)] W fun eg w' => ∃ c', (∀ j, L j = true → vrrf13b X idl ab gr li v5 c' j = vrrf13b X idl ab gr li v5 c j) ∧ eg = .returned (vrrf13b X idl ab gr li v5 c' 7) ∧ Wd c' (upd L 7) w')
    (r8 : ∀ W, (do eqGuard .add 9 (.tmp 35) (.tmp 38) (S (v5 ++ ((be 6 idl.toNat)))) (S (be 6 ab.toNat)); binOp .add 9 (S (v5 ++ ((be 6 idl.toNat)))) (S (be 6 ab.toNat))).run Tryz.prog W = .ok (S (((v5 ++ ((be 6 idl.toNat)))) ++ ((be 6 ab.toNat)))) W)
    (e8 : ∀ c L W, Wd c L W → L 8 = false → L 4 = true → L 7 = true → Wd c (upd L 8) W)
    (r10 : ∀ c L W, Wd c L W → L 10 = false → L 9 = true → (Instr.loadAt 3 (.pointer (some ⟨X, 9, none⟩))).run Tryz.prog W = .ok (I gr) W)
    (r11 : ∀ c L W, Wd c L W → L 11 = false → L 10 = true → Calls Tryz.prog 62 #[(I gr), (I 6)] W fun eg w' => ∃ c', (∀ j, L j = true → vrrf13b X idl ab gr li v5 c' j = vrrf13b X idl ab gr li v5 c j) ∧ eg = .returned (vrrf13b X idl ab gr li v5 c' 11) ∧ Wd c' (upd L 11) w')
    (r12 : ∀ W, (do eqGuard .add 9 (.tmp 39) (.tmp 42) (S (((v5 ++ ((be 6 idl.toNat)))) ++ ((be 6 ab.toNat)))) (S (be 6 gr.toNat)); binOp .add 9 (S (((v5 ++ ((be 6 idl.toNat)))) ++ ((be 6 ab.toNat)))) (S (be 6 gr.toNat))).run Tryz.prog W = .ok (S (((((v5 ++ ((be 6 idl.toNat)))) ++ ((be 6 ab.toNat)))) ++ ((be 6 gr.toNat)))) W)
    (e12 : ∀ c L W, Wd c L W → L 12 = false → L 8 = true → L 11 = true → Wd c (upd L 12) W)
    (r14 : ∀ c L W, Wd c L W → L 14 = false → L 13 = true → (Instr.loadAt 3 (.pointer (some ⟨X, 10, none⟩))).run Tryz.prog W = .ok (I li) W)
    (r15 : ∀ c L W, Wd c L W → L 15 = false → L 14 = true → Calls Tryz.prog 62 #[(I li), (I 6)] W fun eg w' => ∃ c', (∀ j, L j = true → vrrf13b X idl ab gr li v5 c' j = vrrf13b X idl ab gr li v5 c j) ∧ eg = .returned (vrrf13b X idl ab gr li v5 c' 15) ∧ Wd c' (upd L 15) w')
    (r16 : ∀ W, (do eqGuard .add 9 (.tmp 43) (.tmp 46) (S (((((v5 ++ ((be 6 idl.toNat)))) ++ ((be 6 ab.toNat)))) ++ ((be 6 gr.toNat)))) (S (be 6 li.toNat)); binOp .add 9 (S (((((v5 ++ ((be 6 idl.toNat)))) ++ ((be 6 ab.toNat)))) ++ ((be 6 gr.toNat)))) (S (be 6 li.toNat))).run Tryz.prog W = .ok (S (((((((v5 ++ ((be 6 idl.toNat)))) ++ ((be 6 ab.toNat)))) ++ ((be 6 gr.toNat)))) ++ ((be 6 li.toNat)))) W)
    (e16 : ∀ c L W, Wd c L W → L 16 = false → L 12 = true → L 15 = true → Wd c (upd L 16) W)
    (r17 : ∀ c L W, Wd c L W → L 17 = false → L 16 = true → Wd c (upd L 17) W)
    (hend : ∀ c L W, (∀ i, i < 18 → L i = true) → Wd c L W → Q .normal ((((((((((((((((((a0.put (some 31) (S v5)).put (some 32) (.pointer (some ⟨X, 7, none⟩))).put (some 33) (I idl)).put (some 34) (S (be 6 idl.toNat))).put (some 35) (S (v5 ++ ((be 6 idl.toNat))))).put (some 36) (.pointer (some ⟨X, 8, none⟩))).put (some 37) (I ab)).put (some 38) (S (be 6 ab.toNat))).put (some 39) (S (((v5 ++ ((be 6 idl.toNat)))) ++ ((be 6 ab.toNat))))).put (some 40) (.pointer (some ⟨X, 9, none⟩))).put (some 41) (I gr)).put (some 42) (S (be 6 gr.toNat))).put (some 43) (S (((((v5 ++ ((be 6 idl.toNat)))) ++ ((be 6 ab.toNat)))) ++ ((be 6 gr.toNat))))).put (some 44) (.pointer (some ⟨X, 10, none⟩))).put (some 45) (I li)).put (some 46) (S (be 6 li.toNat))).put (some 47) (S (((((((v5 ++ ((be 6 idl.toNat)))) ++ ((be 6 ab.toNat)))) ++ ((be 6 gr.toNat)))) ++ ((be 6 li.toNat))))).put (some 5) (S (((((((v5 ++ ((be 6 idl.toNat)))) ++ ((be 6 ab.toNat)))) ++ ((be 6 gr.toNat)))) ++ ((be 6 li.toNat))))) W) : (Code.region id ops true).wp Tryz.prog Q a0 w := by
  let val : Unit → Nat → Value := vrrf13b X idl ab gr li v5
  have hosz : ops.size = 18 := by
    have := congrArg List.length htab
    simpa [rrf13bT] using this
  have hds : ∀ i s, (rrf13bT[i]?).bind (·.2.1) = some s → dstOf ops i = some s := fun i s hi => by rw [tab_dst htab, hi]
  have hdisB : disL rrf13bT = true := by rfl
  have hdis := disL_of htab hdisB
  have hold : ∀ s, rrf13bT.all (fun x => !(x.2.1 == some s)) = true → (List.range ops.size).all (fun j => !(dstOf ops j == some s)) = true := fun s h => holdL htab s h
  refine region_detX val Wd (hac_of hac) hdis h0 ?_ ?_
  rotate_left
  · intro c L W hall hW
    have := hend c L W (by rw [← hosz]; exact hall) hW
    have e : frm ops a0 (val c) (fun _ => true) ops.size = ((((((((((((((((((a0.put (some 31) (S v5)).put (some 32) (.pointer (some ⟨X, 7, none⟩))).put (some 33) (I idl)).put (some 34) (S (be 6 idl.toNat))).put (some 35) (S (v5 ++ ((be 6 idl.toNat))))).put (some 36) (.pointer (some ⟨X, 8, none⟩))).put (some 37) (I ab)).put (some 38) (S (be 6 ab.toNat))).put (some 39) (S (((v5 ++ ((be 6 idl.toNat)))) ++ ((be 6 ab.toNat))))).put (some 40) (.pointer (some ⟨X, 9, none⟩))).put (some 41) (I gr)).put (some 42) (S (be 6 gr.toNat))).put (some 43) (S (((((v5 ++ ((be 6 idl.toNat)))) ++ ((be 6 ab.toNat)))) ++ ((be 6 gr.toNat))))).put (some 44) (.pointer (some ⟨X, 10, none⟩))).put (some 45) (I li)).put (some 46) (S (be 6 li.toNat))).put (some 47) (S (((((((v5 ++ ((be 6 idl.toNat)))) ++ ((be 6 ab.toNat)))) ++ ((be 6 gr.toNat)))) ++ ((be 6 li.toNat))))).put (some 5) (S (((((((v5 ++ ((be 6 idl.toNat)))) ++ ((be 6 ab.toNat)))) ++ ((be 6 gr.toNat)))) ++ ((be 6 li.toNat))))) := by
      rw [hosz]
      simp only [frm, if_true]
      rw [tab_dst htab 0, tab_dst htab 1, tab_dst htab 2, tab_dst htab 3, tab_dst htab 4, tab_dst htab 5, tab_dst htab 6, tab_dst htab 7, tab_dst htab 8, tab_dst htab 9, tab_dst htab 10, tab_dst htab 11, tab_dst htab 12, tab_dst htab 13, tab_dst htab 14, tab_dst htab 15, tab_dst htab 16, tab_dst htab 17]
      rfl
    rw [e]
    exact this
  intro i o ho c L a w' hL hd ha hW
  have hi : i < 18 := by rw [← hosz]; exact (Array.getElem?_eq_some_iff.1 ho).1
  have G : ∀ j s : Nat, (rrf13bT[j]?).bind (·.2.1) = some s → s < 48 → (i, j) ∈ rrf13bD → a.tmps[s]? = some (val c j) := fun j s h1 h2 h3 => frm_at hdis ha j s (hds j s h1) (by omega) (depl_of hdep i j h3 ho hd)
  match i, ho, hL, hi, G with
  | 0, ho, hL, _, G =>
    obtain ⟨hop, hgd⟩ := tab3 htab ho rfl
    have h0 : a.tmps[5]? = some (S v5) := by rw [ha, frm_late a0 (val c) L 5 17 (e0 c L w' hW hL) ops.size (late_of htab (by rfl))]; exact o5
    exact (dXr ho hgd (hpure 0 (by decide) c L w' hW) (g_mov hop (eval_of h0)))
  | 1, ho, hL, _, G =>
    obtain ⟨hop, hgd⟩ := tab3 htab ho rfl
    have h0 := frm_old ha 1 _ (hold 1 rfl) o1
    exact (dXr ho hgd (hpure 1 (by decide) c L w' hW) (g_field hop (eval_of h0) (by kernel_rfl)))
  | 2, ho, hL, _, G =>
    obtain ⟨hop, hgd⟩ := tab3 htab ho rfl
    have h0 := G 1 32 rfl (by decide) (by decide)
    exact (dXr ho hgd (hpure 2 (by decide) c L w' hW) (g_load hop (eval_of h0) (r2 c L w' hW hL (depl_of hdep 2 1 (by decide) ho hd))))
  | 3, ho, hL, _, G =>
    obtain ⟨hop, hgd⟩ := tab3 htab ho rfl
    have h0 := G 2 33 rfl (by decide) (by decide)
    refine doesX_call ho (wanted_none hgd) 62 #[(I idl), (I 6)] ?_ (r3 c L w' hW hL (depl_of hdep 3 2 (by decide) ho hd))
    rw [run_calls Tryz.func62 (by kernel_rfl) rfl _ _ _ _ hop rfl]
    simp only [List.map_toArray, List.map_cons, List.map_nil, eval_of h0]
    all_goals rfl
  | 4, ho, hL, _, G =>
    obtain ⟨hop, hgd⟩ := tab3 htab ho rfl
    have h0 := G 0 31 rfl (by decide) (by decide)
    have h1 := G 3 34 rfl (by decide) (by decide)
    exact (dXr ho hgd (e4 c L w' hW hL (depl_of hdep 4 0 (by decide) ho hd) (depl_of hdep 4 3 (by decide) ho hd)) (g_bin hop (eval_of h0) (eval_of h1) (r4 w')))
  | 5, ho, hL, _, G =>
    obtain ⟨hop, hgd⟩ := tab3 htab ho rfl
    have h0 := frm_old ha 1 _ (hold 1 rfl) o1
    exact (dXr ho hgd (hpure 5 (by decide) c L w' hW) (g_field hop (eval_of h0) (by kernel_rfl)))
  | 6, ho, hL, _, G =>
    obtain ⟨hop, hgd⟩ := tab3 htab ho rfl
    have h0 := G 5 36 rfl (by decide) (by decide)
    exact (dXr ho hgd (hpure 6 (by decide) c L w' hW) (g_load hop (eval_of h0) (r6 c L w' hW hL (depl_of hdep 6 5 (by decide) ho hd))))
  | 7, ho, hL, _, G =>
    obtain ⟨hop, hgd⟩ := tab3 htab ho rfl
    have h0 := G 6 37 rfl (by decide) (by decide)
    refine doesX_call ho (wanted_none hgd) 62 #[(I ab), (I 6)] ?_ (r7 c L w' hW hL (depl_of hdep 7 6 (by decide) ho hd))
    rw [run_calls Tryz.func62 (by kernel_rfl) rfl _ _ _ _ hop rfl]
    simp only [List.map_toArray, List.map_cons, List.map_nil, eval_of h0]
    all_goals rfl
  | 8, ho, hL, _, G =>
    obtain ⟨hop, hgd⟩ := tab3 htab ho rfl
    have h0 := G 4 35 rfl (by decide) (by decide)
    have h1 := G 7 38 rfl (by decide) (by decide)
    exact (dXr ho hgd (e8 c L w' hW hL (depl_of hdep 8 4 (by decide) ho hd) (depl_of hdep 8 7 (by decide) ho hd)) (g_bin hop (eval_of h0) (eval_of h1) (r8 w')))
  | 9, ho, hL, _, G =>
    obtain ⟨hop, hgd⟩ := tab3 htab ho rfl
    have h0 := frm_old ha 1 _ (hold 1 rfl) o1
    exact (dXr ho hgd (hpure 9 (by decide) c L w' hW) (g_field hop (eval_of h0) (by kernel_rfl)))
  | 10, ho, hL, _, G =>
    obtain ⟨hop, hgd⟩ := tab3 htab ho rfl
    have h0 := G 9 40 rfl (by decide) (by decide)
    exact (dXr ho hgd (hpure 10 (by decide) c L w' hW) (g_load hop (eval_of h0) (r10 c L w' hW hL (depl_of hdep 10 9 (by decide) ho hd))))
  | 11, ho, hL, _, G =>
    obtain ⟨hop, hgd⟩ := tab3 htab ho rfl
    have h0 := G 10 41 rfl (by decide) (by decide)
    refine doesX_call ho (wanted_none hgd) 62 #[(I gr), (I 6)] ?_ (r11 c L w' hW hL (depl_of hdep 11 10 (by decide) ho hd))
    rw [run_calls Tryz.func62 (by kernel_rfl) rfl _ _ _ _ hop rfl]
    simp only [List.map_toArray, List.map_cons, List.map_nil, eval_of h0]
    all_goals rfl
  | 12, ho, hL, _, G =>
    obtain ⟨hop, hgd⟩ := tab3 htab ho rfl
    have h0 := G 8 39 rfl (by decide) (by decide)
    have h1 := G 11 42 rfl (by decide) (by decide)
    exact (dXr ho hgd (e12 c L w' hW hL (depl_of hdep 12 8 (by decide) ho hd) (depl_of hdep 12 11 (by decide) ho hd)) (g_bin hop (eval_of h0) (eval_of h1) (r12 w')))
  | 13, ho, hL, _, G =>
    obtain ⟨hop, hgd⟩ := tab3 htab ho rfl
    have h0 := frm_old ha 1 _ (hold 1 rfl) o1
    exact (dXr ho hgd (hpure 13 (by decide) c L w' hW) (g_field hop (eval_of h0) (by kernel_rfl)))
  | 14, ho, hL, _, G =>
    obtain ⟨hop, hgd⟩ := tab3 htab ho rfl
    have h0 := G 13 44 rfl (by decide) (by decide)
    exact (dXr ho hgd (hpure 14 (by decide) c L w' hW) (g_load hop (eval_of h0) (r14 c L w' hW hL (depl_of hdep 14 13 (by decide) ho hd))))
  | 15, ho, hL, _, G =>
    obtain ⟨hop, hgd⟩ := tab3 htab ho rfl
    have h0 := G 14 45 rfl (by decide) (by decide)
    refine doesX_call ho (wanted_none hgd) 62 #[(I li), (I 6)] ?_ (r15 c L w' hW hL (depl_of hdep 15 14 (by decide) ho hd))
    rw [run_calls Tryz.func62 (by kernel_rfl) rfl _ _ _ _ hop rfl]
    simp only [List.map_toArray, List.map_cons, List.map_nil, eval_of h0]
    all_goals rfl
  | 16, ho, hL, _, G =>
    obtain ⟨hop, hgd⟩ := tab3 htab ho rfl
    have h0 := G 12 43 rfl (by decide) (by decide)
    have h1 := G 15 46 rfl (by decide) (by decide)
    exact (dXr ho hgd (e16 c L w' hW hL (depl_of hdep 16 12 (by decide) ho hd) (depl_of hdep 16 15 (by decide) ho hd)) (g_bin hop (eval_of h0) (eval_of h1) (r16 w')))
  | 17, ho, hL, _, G =>
    obtain ⟨hop, hgd⟩ := tab3 htab ho rfl
    have h0 := G 16 47 rfl (by decide) (by decide)
    exact (dXr ho hgd (r17 c L w' hW hL (depl_of hdep 17 16 (by decide) ho hd)) (by rw [run_assign _ _ _ hop]; exact congrArg (fun v => Result.ok (Next.value v) w') (eval_of h0)))
  | (i + 18), ho, hL, hi, _ => exact absurd hi (by omega)
theorem rPr13 (na : Bs) (pu of9 : Bool) (hq ol : Bs) (un : Int) (va : Option Addr) (vc : Nat) (sc : List Bs) (idl ab gr li : Int) (w : World) (hna : na.length ≤ 9223372036854775807) (hsc : Sts w va sc.length sc) (hsl : sc.length ≤ 140737488355000) (hln : Lns sc) : Calls Tryz.prog 13 #[.agg #[S na, .bool pu, .bool of9, S hq, S ol, I un, .slice va sc.length vc, I idl, I ab, I gr, I li]] w fun e w' => e = .returned (.tuple #[.agg #[S (cliP na pu of9 hq ol un sc idl ab gr li).1.1, S (cliP na pu of9 hq ol un sc idl ab gr li).1.2], I (cliP na pu of9 hq ol un sc idl ab gr li).2]) ∧ Below w.heap.size w w' := by
  have hb0 : Below w.heap.size w ((w.alloc (.cells #[S na, .bool pu, .bool of9, S hq, S ol, I un, .slice va sc.length vc, I idl, I ab, I gr, I li] 24)).alloc (.cells #[S [], S []] 30)) := ((Below.refl _ w).alloc (Nat.le_refl _) _).alloc (by simp) _
  have hT : ((w.alloc (.cells #[S na, .bool pu, .bool of9, S hq, S ol, I un, .slice va sc.length vc, I idl, I ab, I gr, I li] 24)).alloc (.cells #[S [], S []] 30)).heap[w.heap.size]? = some (.cells #[S na, .bool pu, .bool of9, S hq, S ol, I un, .slice va sc.length vc, I idl, I ab, I gr, I li] 24 (0, 0)) := by
    rw [heap_alloc_old _ _ (by simp)]; exact heap_alloc_new _ _
  have hR : ((w.alloc (.cells #[S na, .bool pu, .bool of9, S hq, S ol, I un, .slice va sc.length vc, I idl, I ab, I gr, I li] 24)).alloc (.cells #[S [], S []] 30)).heap[w.heap.size + 1]? = some (.cells #[S [], S []] 30 (0, 0)) := by
    have e := heap_alloc_new (w.alloc (.cells #[S na, .bool pu, .bool of9, S hq, S ol, I un, .slice va sc.length vc, I idl, I ab, I gr, I li] 24)) (.cells #[S [], S []] 30)
    simpa using e
  have c0 : ((w.alloc (.cells #[S na, .bool pu, .bool of9, S hq, S ol, I un, .slice va sc.length vc, I idl, I ab, I gr, I li] 24)).alloc (.cells #[S [], S []] 30)).cell? ⟨w.heap.size, 0, none⟩ = some (S na) := cellr hT rfl
  have c1 : ((w.alloc (.cells #[S na, .bool pu, .bool of9, S hq, S ol, I un, .slice va sc.length vc, I idl, I ab, I gr, I li] 24)).alloc (.cells #[S [], S []] 30)).cell? ⟨w.heap.size, 1, none⟩ = some (.bool pu) := cellr hT rfl
  have c2 : ((w.alloc (.cells #[S na, .bool pu, .bool of9, S hq, S ol, I un, .slice va sc.length vc, I idl, I ab, I gr, I li] 24)).alloc (.cells #[S [], S []] 30)).cell? ⟨w.heap.size, 2, none⟩ = some (.bool of9) := cellr hT rfl
  have c3 : ((w.alloc (.cells #[S na, .bool pu, .bool of9, S hq, S ol, I un, .slice va sc.length vc, I idl, I ab, I gr, I li] 24)).alloc (.cells #[S [], S []] 30)).cell? ⟨w.heap.size, 3, none⟩ = some (S hq) := cellr hT rfl
  have c4 : ((w.alloc (.cells #[S na, .bool pu, .bool of9, S hq, S ol, I un, .slice va sc.length vc, I idl, I ab, I gr, I li] 24)).alloc (.cells #[S [], S []] 30)).cell? ⟨w.heap.size, 4, none⟩ = some (S ol) := cellr hT rfl
  have c5 : ((w.alloc (.cells #[S na, .bool pu, .bool of9, S hq, S ol, I un, .slice va sc.length vc, I idl, I ab, I gr, I li] 24)).alloc (.cells #[S [], S []] 30)).cell? ⟨w.heap.size, 5, none⟩ = some (I un) := cellr hT rfl
  have c6 : ((w.alloc (.cells #[S na, .bool pu, .bool of9, S hq, S ol, I un, .slice va sc.length vc, I idl, I ab, I gr, I li] 24)).alloc (.cells #[S [], S []] 30)).cell? ⟨w.heap.size, 6, none⟩ = some (.slice va sc.length vc) := cellr hT rfl
  have c7 : ((w.alloc (.cells #[S na, .bool pu, .bool of9, S hq, S ol, I un, .slice va sc.length vc, I idl, I ab, I gr, I li] 24)).alloc (.cells #[S [], S []] 30)).cell? ⟨w.heap.size, 7, none⟩ = some (I idl) := cellr hT rfl
  have c8 : ((w.alloc (.cells #[S na, .bool pu, .bool of9, S hq, S ol, I un, .slice va sc.length vc, I idl, I ab, I gr, I li] 24)).alloc (.cells #[S [], S []] 30)).cell? ⟨w.heap.size, 8, none⟩ = some (I ab) := cellr hT rfl
  have c9 : ((w.alloc (.cells #[S na, .bool pu, .bool of9, S hq, S ol, I un, .slice va sc.length vc, I idl, I ab, I gr, I li] 24)).alloc (.cells #[S [], S []] 30)).cell? ⟨w.heap.size, 9, none⟩ = some (I gr) := cellr hT rfl
  have c10 : ((w.alloc (.cells #[S na, .bool pu, .bool of9, S hq, S ol, I un, .slice va sc.length vc, I idl, I ab, I gr, I li] 24)).alloc (.cells #[S [], S []] 30)).cell? ⟨w.heap.size, 10, none⟩ = some (I li) := cellr hT rfl
  have HM := hide (rMay61 na pu of9 hq ol un va vc sc idl ab gr li ((w.alloc (.cells #[S na, .bool pu, .bool of9, S hq, S ol, I un, .slice va sc.length vc, I idl, I ab, I gr, I li] 24)).alloc (.cells #[S [], S []] 30)) hna (hsc.bel hb0) hsl hln)
  generalize hW1 : ((w.alloc (.cells #[S na, .bool pu, .bool of9, S hq, S ol, I un, .slice va sc.length vc, I idl, I ab, I gr, I li] 24)).alloc (.cells #[S [], S []] 30)) = W1 at *
  have HT := hide hT
  have HR := hide hR
  have HB := hide hb0
  have HS := hide hsc
  clear hT hR hb0 hsc hna hln
  go_enter Tryz.func13, Tryz.ntmps13
  go_wp2_with fail
  refine (unhide HM).mono ?_
  rintro e W2 ⟨rfl, hb⟩
  have HT2 := hide ((hb.block _ (lt_of_row (unhide HT))).trans (unhide HT))
  have HR2 := hide ((hb.block _ (lt_of_row (unhide HR))).trans (unhide HR))
  have HB2 := hide ((unhide HB).trans (hb.mono (unhide HB).size))
  clear HM hb HT HR HB hW1 c0 c1 c2 c3 c4 c5 c6 c7 c8 c9 c10
  cases hok : cliOK na pu hq ol un sc idl ab gr li
  · have HP : Hid (cliP na pu of9 hq ol un sc idl ab gr li = (([], []), 140)) := hide (by simp [cliP, hok])
    clear hok
    go_wp2_with (refine wp_st30 rfl (.tmp 2) (.tmp 10) rfl (w.heap.size + 1) (by rfl) [] [] (by rfl) #[S [], S []] rfl (unhide HR2) ?_)
    refine out2c (T := 30) (n := 2) (p := 2) (q := 3) (cs := #[S [], S []]) (fun _ => by kernel_rfl) (fun _ => by kernel_rfl) (Z := w.heap.size + 1) (by rfl) (by rfl) (by rfl) (by rfl) (setRow_row (unhide HR2)) (by rfl) ?_
    rw [unhide HP]
    exact ⟨rfl, (setRow_Only W2 (w.heap.size + 1) #[S [], S []]).below (unhide HB2) (unhide HB2).size (fun k e => by omega)⟩
  · have hbb := cliB hok
    have hg : right sc = true := by simp only [cliOK, Bool.and_eq_true] at hok; exact hok.2.2.1
    have hgs := right_small hg
    have hbv := bv_lt [pu, of9] (by simp)
    obtain ⟨fz, hfz⟩ : ∃ z : Int, z = ((bv [pu, of9] : Nat) : Int) := ⟨_, rfl⟩
    have HP : Hid (cliP na pu of9 hq ol un sc idl ab gr li = (([99] ++ na, (((((((((((((((((be 1 fz.toNat)) ++ ((be 1 hq.length ++ hq)))) ++ ((be 1 ol.length ++ ol)))) ++ ((be 6 un.toNat)))) ++ ((be 1 ((tx sc)).length ++ (tx sc))))) ++ ((be 6 idl.toNat)))) ++ ((be 6 ab.toNat)))) ++ ((be 6 gr.toNat)))) ++ ((be 6 li.toNat)))), 0)) := hide (by unfold cliP; rw [if_pos hok, hfz]; simp [cat, lx, cliKl, cliVl])
    have Rk0 : Rj w w.heap.size #[S na, .bool pu, .bool of9, S hq, S ol, I un, .slice va sc.length vc, I idl, I ab, I gr, I li] 24 (w.heap.size + 1) #[S [], S []] 30 () (fun _ => false) W2.drew := ⟨(unhide HB2).drew, unhide HT2, unhide HR2⟩
    clear hok
    go_wp2_with fail
    refine rrf13a w.heap.size va vc na pu of9 hq ol un sc idl ab gr li fz rfl (by rfl) (by rfl) _ W2 (by simp) rfl (Rj w w.heap.size #[S na, .bool pu, .bool of9, S hq, S ol, I un, .slice va sc.length vc, I idl, I ab, I gr, I li] 24 (w.heap.size + 1) #[S [], S []] 30) ⟨(), Rk0⟩ (fun i _ c L W hW => hW.any _)
      (fun c L W hW _ => s_ldr (T := 24) (n := 11) (fun _ => by kernel_rfl) (fun _ => by kernel_rfl) (o := 0) hW.rx [S na, .bool pu, .bool of9, S hq, S ol, I un, .slice va sc.length vc, I idl, I ab, I gr, I li] rfl rfl)
      (fun c L W hW _ _ => (rFlags63 na pu of9 hq ol un va vc sc idl ab gr li W).mono fun e w' q => ⟨(), fun _ _ => rfl, by rw [q.1, ← hfz]; rfl, hW.call _ q.2⟩)
      (fun c L W hW _ _ => (byI fz 1 W (by decide) (by decide) (by omega) (by omega)).mono fun e w' q => ⟨(), fun _ _ => rfl, q.1, hW.call _ q.2⟩)
      (fun c L W hW _ _ => s_ld (T := 9) (fun _ => by kernel_rfl) (hW.cell rfl))
      (fun c L W hW _ _ => (short_any (hq) W (by omega)).mono fun e w' q => ⟨(), fun _ _ => rfl, q.1, hW.call _ q.2⟩)
      (fun W => s_cat _ _ _ _ (by simp only [List.length_append, be_len]; omega))
      (fun c L W hW _ _ => s_ld (T := 9) (fun _ => by kernel_rfl) (hW.cell rfl))
      (fun c L W hW _ _ => (short_any (ol) W (by omega)).mono fun e w' q => ⟨(), fun _ _ => rfl, q.1, hW.call _ q.2⟩)
      (fun W => s_cat _ _ _ _ (by simp only [List.length_append, be_len]; omega))
      (fun c L W hW _ _ => s_ld (T := 3) (fun _ => by kernel_rfl) (hW.cell rfl))
      (fun c L W hW _ _ => (byI un 6 W (by decide) (by decide) (by omega) (by omega)).mono fun e w' q => ⟨(), fun _ _ => rfl, q.1, hW.call _ q.2⟩)
      (fun W => s_cat _ _ _ _ (by simp only [List.length_append, be_len]; omega))
      (fun c L W hW _ _ => s_ld (T := 22) (fun _ => by kernel_rfl) (hW.cell rfl))
      (fun c L W hW _ _ => (refText_any va sc.length vc sc W ((unhide HS).bel hW.bel) (by omega) hsl).mono fun e w' q => ⟨(), fun _ _ => rfl, q.1, by rw [q.2]; exact hW.any _⟩)
      (fun c L W hW _ _ => (short_any ((tx sc)) W (by omega)).mono fun e w' q => ⟨(), fun _ _ => rfl, q.1, hW.call _ q.2⟩)
      (fun W => s_cat _ _ _ _ (by simp only [List.length_append, be_len]; omega))
      ?_
    intro c L W hall hW
    have Rk1 := hW
    have hv5 : ((((((((((be 1 fz.toNat)) ++ ((be 1 hq.length ++ hq)))) ++ ((be 1 ol.length ++ ol)))) ++ ((be 6 un.toNat)))) ++ ((be 1 ((tx sc)).length ++ (tx sc))))).length ≤ 1000 := by simp only [List.length_append, be_len]; omega
    clear hall hW Rk0 HB2 HT2 HR2 HS
    have Rk0 : Rj w w.heap.size #[S na, .bool pu, .bool of9, S hq, S ol, I un, .slice va sc.length vc, I idl, I ab, I gr, I li] 24 (w.heap.size + 1) #[S [], S []] 30 () (fun _ => false) W.drew := ⟨Rk1.bel.drew, Rk1.rx, Rk1.rr⟩
    clear Rk1
    simp only [Act.put, List.setIfInBounds_toArray, List.set_cons_succ, List.set_cons_zero]
    generalize ((((((((((be 1 fz.toNat)) ++ ((be 1 hq.length ++ hq)))) ++ ((be 1 ol.length ++ ol)))) ++ ((be 6 un.toNat)))) ++ ((be 1 ((tx sc)).length ++ (tx sc))))) = v5 at *
    go_wp2_with fail
    refine rrf13b w.heap.size idl ab gr li v5 rfl (by rfl) (by rfl) _ W (by simp) rfl rfl (Rl w w.heap.size #[S na, .bool pu, .bool of9, S hq, S ol, I un, .slice va sc.length vc, I idl, I ab, I gr, I li] 24 (w.heap.size + 1) #[S [], S []] 30 [(4, 0), (8, 4), (12, 8), (16, 12), (17, 16)]) ⟨(), ⟨Rk0, fun _ _ e => by cases e⟩⟩ (fun i hi c L W hW => hW.other i (fun d hd e => hi (by subst e; simp only [List.mem_cons, List.not_mem_nil, or_false] at hd; rcases hd with rfl | rfl | rfl | rfl | rfl <;> decide)))
      (fun c L W hW h0 => no_of (fun h => hW.dep (4, 0) (by decide) (hW.dep (8, 4) (by decide) (hW.dep (12, 8) (by decide) (hW.dep (16, 12) (by decide) (hW.dep (17, 16) (by decide) (h)))))) h0)
      (fun c L W hW _ _ => s_ld (T := 3) (fun _ => by kernel_rfl) (hW.base.cell rfl))
      (fun c L W hW _ _ => (byI idl 6 W (by decide) (by decide) (by omega) (by omega)).mono fun e w' q => ⟨(), fun _ _ => rfl, q.1, hW.call 3 (by decide) q.2⟩)
      (fun W => s_cat _ _ _ _ (by simp only [be_len]; omega))
      (fun c L W hW _ h0 h3 => hW.link 4 (fun d hd e => by
        simp only [List.mem_cons, List.not_mem_nil, or_false] at hd
        rcases hd with rfl | rfl | rfl | rfl | rfl
        · exact h0
        · exact absurd e (by decide)
        · exact absurd e (by decide)
        · exact absurd e (by decide)
        · exact absurd e (by decide)))
      (fun c L W hW _ _ => s_ld (T := 3) (fun _ => by kernel_rfl) (hW.base.cell rfl))
      (fun c L W hW _ _ => (byI ab 6 W (by decide) (by decide) (by omega) (by omega)).mono fun e w' q => ⟨(), fun _ _ => rfl, q.1, hW.call 7 (by decide) q.2⟩)
      (fun W => s_cat _ _ _ _ (by simp only [List.length_append, be_len]; omega))
      (fun c L W hW _ h4 h7 => hW.link 8 (fun d hd e => by
        simp only [List.mem_cons, List.not_mem_nil, or_false] at hd
        rcases hd with rfl | rfl | rfl | rfl | rfl
        · exact absurd e (by decide)
        · exact h4
        · exact absurd e (by decide)
        · exact absurd e (by decide)
        · exact absurd e (by decide)))
      (fun c L W hW _ _ => s_ld (T := 3) (fun _ => by kernel_rfl) (hW.base.cell rfl))
      (fun c L W hW _ _ => (byI gr 6 W (by decide) (by decide) (by omega) (by omega)).mono fun e w' q => ⟨(), fun _ _ => rfl, q.1, hW.call 11 (by decide) q.2⟩)
      (fun W => s_cat _ _ _ _ (by simp only [List.length_append, be_len]; omega))
      (fun c L W hW _ h8 h11 => hW.link 12 (fun d hd e => by
        simp only [List.mem_cons, List.not_mem_nil, or_false] at hd
        rcases hd with rfl | rfl | rfl | rfl | rfl
        · exact absurd e (by decide)
        · exact absurd e (by decide)
        · exact h8
        · exact absurd e (by decide)
        · exact absurd e (by decide)))
      (fun c L W hW _ _ => s_ld (T := 3) (fun _ => by kernel_rfl) (hW.base.cell rfl))
      (fun c L W hW _ _ => (byI li 6 W (by decide) (by decide) (by omega) (by omega)).mono fun e w' q => ⟨(), fun _ _ => rfl, q.1, hW.call 15 (by decide) q.2⟩)
      (fun W => s_cat _ _ _ _ (by simp only [List.length_append, be_len]; omega))
      (fun c L W hW _ h12 h15 => hW.link 16 (fun d hd e => by
        simp only [List.mem_cons, List.not_mem_nil, or_false] at hd
        rcases hd with rfl | rfl | rfl | rfl | rfl
        · exact absurd e (by decide)
        · exact absurd e (by decide)
        · exact absurd e (by decide)
        · exact h12
        · exact absurd e (by decide)))
      (fun c L W hW _ h16 => hW.link 17 (fun d hd e => by
        simp only [List.mem_cons, List.not_mem_nil, or_false] at hd
        rcases hd with rfl | rfl | rfl | rfl | rfl
        · exact absurd e (by decide)
        · exact absurd e (by decide)
        · exact absurd e (by decide)
        · exact absurd e (by decide)
        · exact h16))
      ?_
    intro c L W9 hall hW
    have HB9 := hide hW.base.bel
    have HR9 := hide hW.base.rr
    have c0 : W9.cell? ⟨w.heap.size, 0, none⟩ = some (S na) := hW.base.cell rfl
    clear hall hW Rk0
    simp only [Act.put, List.setIfInBounds_toArray, List.set_cons_succ, List.set_cons_zero]
    generalize ((((((((v5 ++ ((be 6 idl.toNat)))) ++ ((be 6 ab.toNat)))) ++ ((be 6 gr.toNat)))) ++ ((be 6 li.toNat)))) = v9 at *
    have hn16 : na.length ≤ 1000 := by omega
    clear hbb hg hgs hsl hv5 hbv hfz
    go_wp2_with (refine wp_st30 rfl (.tmp 2) (.tmp 52) rfl (w.heap.size + 1) (by rfl) (99 :: na) v9 (by rfl) #[S [], S []] rfl (unhide HR9) ?_)
    refine out2c (T := 30) (n := 2) (p := 2) (q := 3) (cs := #[S (99 :: na), S v9]) (fun _ => by kernel_rfl) (fun _ => by kernel_rfl) (Z := w.heap.size + 1) (by rfl) (by rfl) (by rfl) (by rfl) (setRow_row (unhide HR9)) (by rfl) ?_
    rw [unhide HP]
    exact ⟨rfl, (setRow_Only W9 (w.heap.size + 1) #[S (99 :: na), S v9]).below (unhide HB9) (unhide HB9).size (fun k e => by omega)⟩
end Go.Proofs.YtpidmpefodnffaaGreatDoor
