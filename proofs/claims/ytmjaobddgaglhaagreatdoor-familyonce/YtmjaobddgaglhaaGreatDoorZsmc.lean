import Derived.Test.YtmjaobddgaglhaaGreatDoorZdsa
import Derived.Laws.CopyRow
import Derived.Laws.MakeOwn
import Derived.Test.YtmjaobddgaglhaaGreatDoorZrgpr
import Derived.Test.YtmjaobddgaglhaaGreatDoorZscb
import Derived.Deep.Cut
import Derived.Deep.CutRange
import Derived.Test.YtmjaobddgaglhaaGreatDoorZfde
import Derived.Test.YtmjaobddgaglhaaGreatDoorZdetl
import Derived.Test.YtmjaobddgaglhaaGreatDoorEnda
import Derived.Test.YtmjaobddgaglhaaGreatDoorZprd
import Derived.Test.YtmjaobddgaglhaaGreatDoorZprf
import Derived.Test.YtmjaobddgaglhaaGreatDoorZprg
import Derived.Test.YtmjaobddgaglhaaGreatDoorLyf
import Derived.Test.YtmjaobddgaglhaaGreatDoorRcb
import Derived.Deep.QuietTactic
import Derived.BigQuiet
import Derived.Test.YtmjaobddgaglhaaGreatDoorZscf
import Derived.Lib.CutLaws
import Derived.Lib.BufSteps
namespace Go.Proofs.YtmjaobddgaglhaaGreatDoor
open Go.RowKit Go.Lib
/-- One more text at the end of a row of one's own. -/
theorem pushS {ops : Array Oper} {rest : List Oper} {o : Oper} {a : Act} {w : World} {Q : Exit → Act → World → Prop} (hgd : o.guard = none) (s x : Operand)
    (ho : o.op = .call { callee := .builtin .append, args := #[s, x], argTypes := #[22, 22] }) (B : Nat) (v : Value) (l : List Bs) (hs : a.eval s = v) (w0 : World) (hown : OwnS B w0 v l) (y : Bs) (hw : w = w0.alloc (.cells #[S y] 9)) (hx : a.eval x = .slice (some ⟨w0.heap.size, 0, none⟩) 1 1) (hn : l.length ≤ 1000000000000) (hB : B ≤ w0.heap.size)
    (h : ∀ v' w', OwnS B w' v' (l ++ [y]) → (∀ b w1, b ≤ B → Below b w1 w0 → Below b w1 w') → wpList Tryz.prog ops Q rest (a.put o.dst v') w') : wpList Tryz.prog ops Q (o :: rest) a w := by
  subst hw
  obtain ⟨i0, hi, hz0, hz1, hz2⟩ := info_parts info9
  refine wpList_append_own _ hgd s x 22 ho B 9 i0 (.string ⟨#[]⟩) 1 16 Tryz.underlying22 hi hz0 hz1 hz2 rfl (by decide) v l.length (l.map encStr) hs (World.ownsRow.alloc hown _) ⟨w0.heap.size, 0, none⟩ 1 1 [S y] hx rfl (cell_one_new _ _ _) (by intro u hu; simp at hu; subst hu; rfl) (by unfold maxLen; omega) (by omega) (by simp; omega) ?_
  intro v' w' ho' hg' _
  refine h v' w' ?_ ?_
  · unfold OwnS
    simpa using ho'
  · intro b w1 hb hbel
    have hs : b ≤ w0.heap.size := by omega
    refine (hbel.alloc hs _).grown hg' (by simp; omega) (fun j hj => ?_)
    have := (World.ownsRow.lt (World.ownsRow.alloc hown (.cells #[S y] 9)) j hj).1
    omega
end Go.Proofs.YtmjaobddgaglhaaGreatDoor
namespace Go.Proofs.YtmjaobddgaglhaaGreatDoor
open Go.RowKit Go.Lib
set_option maxHeartbeats 4000000
set_option maxRecDepth 8000
theorem addv_mid (t d : Int) (h1 : ¬ 1099511627776 < d) (h2 : ¬ d < -1099511627776) : addv t d = nr (nr t + d) := by
  unfold addv st
  rw [if_neg h2, if_neg h1]
theorem nr_id {x : Int} (h : 0 ≤ x ∧ x ≤ 1099511627776) : nr x = x := by
  unfold nr
  rw [if_neg (by omega), if_neg (by omega)]
end Go.Proofs.YtmjaobddgaglhaaGreatDoor
/- The family's small functions. -/
namespace Go.Proofs.YtmjaobddgaglhaaGreatDoor
open Go.RowKit
set_option maxHeartbeats 4000000
set_option maxRecDepth 8000
theorem fnear_any (n : Int) (w : World) : Calls Tryz.prog 39 #[I n] w fun e w' => e = .returned (I (nr n)) ∧ Below w.heap.size w w' := by
  have hb : Below w.heap.size w (w.alloc (.cells #[I n] 3)) := (Below.refl _ w).alloc (Nat.le_refl _) _
  have hc : (w.alloc (.cells #[I n] 3)).cell? ⟨w.heap.size, 0, none⟩ = some (I n) := cell_new _ _ _ _ _ rfl
  have HF := hide (first_any (some ⟨w.heap.size, 0, none⟩) 1 1 [n] (w.alloc (.cells #[I n] 3)) ⟨rfl, fun _ => ⟨w.heap.size, 0, rfl, fun j hj => by
    have e : j = 0 := by omega
    subst e
    exact hc⟩⟩ (by omega))
  have HB := hide hb
  have HV : Hid (firstv [n] = nr n) := hide (by
    have := nr_b n
    simp [firstv, mn]
    omega)
  clear hb hc
  rw [← unhide HV]
  generalize firstv [n] = r at *
  go_enter Tryz.func39, Tryz.ntmps39
  go_wp2_with fail
  refine (unhide HF).mono ?_
  rintro e w2 ⟨rfl, hw2⟩
  rw [hw2]
  go_wp2
  go_ret
  exact ⟨rfl, unhide HB⟩
/-- A state of a family that has ended. -/
def isE (s : Int) : Bool := decide (2 ≤ s) && decide (s ≤ 4)
theorem isEnd_any (s : Int) (w : World) : Calls Tryz.prog 48 #[I s] w fun e w' => e = .returned (.bool (isE s)) ∧ w' = w := by
  by_cases h1 : 2 ≤ s
  · by_cases h2 : s ≤ 4
    · have hE : Hid (isE s = true) := hide (by simp [isE, h1, h2])
      have d1 : decide (2 ≤ s) = true := by simpa using h1
      have d2 : decide (s ≤ 4) = true := by simpa using h2
      clear h1 h2
      go_enter Tryz.func48, Tryz.ntmps48
      go_wp2
      go_ret
      rw [unhide hE]
      exact ⟨rfl, rfl⟩
    · have hE : Hid (isE s = false) := hide (by simp [isE, h2])
      have d1 : decide (2 ≤ s) = true := by simpa using h1
      have d2 : decide (s ≤ 4) = false := by simpa using h2
      clear h1 h2
      go_enter Tryz.func48, Tryz.ntmps48
      go_wp2
      go_ret
      rw [unhide hE]
      exact ⟨rfl, rfl⟩
  · have hE : Hid (isE s = false) := hide (by simp [isE, h1])
    have d1 : decide (2 ≤ s) = false := by simpa using h1
    clear h1
    go_enter Tryz.func48, Tryz.ntmps48
    go_wp2
    go_ret
    rw [unhide hE]
    exact ⟨rfl, rfl⟩
/-- Within the grace. -/
def wtn (n t g : Int) : Bool := decide (nr t ≤ nr n) && decide (nr n - nr t < g)
theorem within_any (n t g : Int) (w : World) : Calls Tryz.prog 34 #[I n, I t, I g] w fun e w' => e = .returned (.bool (wtn n t g)) ∧ w' = w := by
  have X1 := hide (fun W => nearest_any n W)
  have X2 := hide (fun W => nearest_any t W)
  have HD : Hid (wtn n t g = (decide (nr t ≤ nr n) && decide (nr n - nr t < g))) := hide rfl
  have b1 := nr_b n
  have b2 := nr_b t
  generalize wtn n t g = R at *
  generalize nr n = x at *
  generalize nr t = y at *
  obtain ⟨b3, b4⟩ := b1
  obtain ⟨b5, b6⟩ := b2
  by_cases h1 : x < y
  · have HR := hide (show R = false by rw [unhide HD]; simp; omega)
    clear HD
    go_enter Tryz.func34, Tryz.ntmps34
    go_wp2_with fail
    refine (unhide X1 w).mono ?_
    rintro e w2 ⟨rfl, hw2⟩
    rw [hw2]
    go_wp2_with fail
    refine (unhide X2 w).mono ?_
    rintro e w3 ⟨rfl, hw3⟩
    rw [hw3]
    clear X1 X2 hw2 hw3 w2 w3
    go_wp2
    go_ret
    rw [unhide HR]
    exact ⟨rfl, rfl⟩
  · have HR := hide (show R = decide (x - y < g) by rw [unhide HD]; simp; omega)
    clear HD
    go_enter Tryz.func34, Tryz.ntmps34
    go_wp2_with fail
    refine (unhide X1 w).mono ?_
    rintro e w2 ⟨rfl, hw2⟩
    rw [hw2]
    go_wp2_with fail
    refine (unhide X2 w).mono ?_
    rintro e w3 ⟨rfl, hw3⟩
    rw [hw3]
    clear X1 X2 hw2 hw3 w2 w3
    go_wp2
    go_ret
    rw [unhide HR]
    exact ⟨rfl, rfl⟩
end Go.Proofs.YtmjaobddgaglhaaGreatDoor
namespace Go.Proofs.YtmjaobddgaglhaaGreatDoor
open Go.RowKit Go.Lib
set_option maxHeartbeats 4000000
set_option maxRecDepth 8000
theorem own_keep {B : Nat} {w w' : World} {v : Value} {u : List Bs} (h : OwnS B w v u) {P : Nat → Prop} (ho : Only P w w') (hp : ∀ k, P k → k < B) : OwnS B w' v u := CtAt.keep (c := .l u) h P ho hp
end Go.Proofs.YtmjaobddgaglhaaGreatDoor
/- Lists of names that are copied, and written over. -/
namespace Go.Proofs.YtmjaobddgaglhaaGreatDoor
open Go.RowKit Go.Lib
set_option maxHeartbeats 4000000
set_option maxRecDepth 8000
/-- A list that came out: its owner's. -/
def OutO (w : World) (r : List Bs) (e : Ending) (w' : World) : Prop := ∃ a cap, e = .returned (.slice a r.length cap) ∧ OwnS w.heap.size w' (.slice a r.length cap) r ∧ Below w.heap.size w w'
/-- Names that may be copied. -/
def Shn (l : List Bs) : Prop := l.length ≤ 1000 ∧ ∀ j, (l.getD j []).length ≤ 1000
theorem ownNames_any (a : Option Addr) (n cap : Nat) (l : List Bs) (w : World) (hp : Sts w a n l) (hs : Shn l) : Calls Tryz.prog 50 #[.slice a n cap] w (OutO w l) := by
  have hn : l.length = n := hp.1.symm
  have hn2 : n ≤ 1000 := by have := hs.1; omega
  have HP := hide hp
  have HS := hide hs.2
  have HL := hide hn
  clear hp hs hn
  go_enter Tryz.func50, Tryz.ntmps50
  go_wp2
  go_loopw [3, 8] (fun v i wr => ∃ k : Nat, k ≤ n ∧ i = .int .i64 k ∧ OwnS w.heap.size wr v (l.take k) ∧ Below w.heap.size w wr) (fun _ i _ => n - (Go.RowKit.intOf i).toNat)
  case atStart => exact ⟨0, by omega, rfl, own_nil _ _, Below.refl _ _⟩
  case round =>
    obtain ⟨k, hk, rfl, hown, hbel⟩ := hrel
    obtain ⟨va, vc, rfl⟩ := hown.form
    have hlk : (l.take k).length = k := by rw [List.length_take]; have := unhide HL; omega
    rw [hlk] at hown ⊢
    have hzB := hbel.size
    by_cases hlt : k < n
    · obtain ⟨p, o, rfl, _, hc0⟩ := ((unhide HP).below hbel).at hlt
      have HX := hide (fun W => clone_any (l.getD k []) W (by have := unhide HS k; omega))
      have hadd : Hid (l.take k ++ [l.getD k []] = l.take (k + 1)) := hide (by
        have hkl : k < l.length := by have := unhide HL; omega
        rw [List.take_succ_eq_append_getElem hkl]
        simp [hkl])
      have HO := hide hown
      have HB := hide hbel
      clear hown hbel
      generalize l.getD k [] = x at *
      have hlt' : (k : Int) < (n : Int) := by omega
      go_wp2_with fail
      refine (unhide HX wr).mono ?_
      rintro e w2 ⟨rfl, hb2⟩
      have HO2 := hide ((unhide HO).below hb2 (Nat.le_refl _))
      have hbs := hb2.size
      have HB2 := hide ((unhide HB).trans (hb2.mono hzB))
      clear hb2 HO HB HX
      go_wp2_with (first
        | (at_builtin; refine pushS rfl (.tmp 12) (.tmp 15) rfl w.heap.size (.slice va k vc) (l.take k) (by rfl) w2 (unhide HO2) x rfl (by rfl) (by omega) (by omega) ?_; intro v2 w3 ho2 hb2; have HO3 := hide ho2; have HB3 := hide (hb2 _ _ (Nat.le_refl _) (unhide HB2)); clear ho2 hb2))
      have ho := unhide HO3
      rw [unhide hadd] at ho
      refine ⟨⟨k + 1, by omega, by go_num, ho, unhide HB3⟩, ?_⟩
      simp [Go.RowKit.intOf]; omega
    · have hkn : k = n := by omega
      subst hkn
      have e : l.take k = l := List.take_of_length_le (by have := unhide HL; omega)
      rw [e] at hown hlk
      have HO := hide hown
      have HB := hide hbel
      clear hown hbel
      have hd : ¬ (k : Int) < (k : Int) := by omega
      clear e
      have HK := hide hlk
      clear hlk
      go_wp2
      go_ret
      exact ⟨va, vc, by rw [unhide HK]; rfl, by rw [unhide HK]; exact unhide HO, unhide HB⟩
end Go.Proofs.YtmjaobddgaglhaaGreatDoor
