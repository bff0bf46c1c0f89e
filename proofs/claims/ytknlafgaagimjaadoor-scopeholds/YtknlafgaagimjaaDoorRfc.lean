import Derived.Test.YtknlafgaagimjaaDoorRfb
import Derived.Test.YtknlafgaagimjaaDoorSco
namespace Go.Proofs.YtknlafgaagimjaaDoor
open Go.RowKit Go.Lib
theorem right_okl (l : List Bs) : right l = (okl l && !many l) := by
  unfold right
  rw [wr_eq]
  unfold tm
  cases okl l <;> cases many l <;> rfl
theorem print_okl (l : List Bs) : print l = if okl l then (if many l then ([], 61) else (tx l, 0)) else ([], 60) := by
  unfold print
  rw [wr_eq]
  unfold tm
  cases okl l <;> cases many l <;> simp
theorem okl_tx {l : List Bs} (h : okl l = true) (hn : l.length ≤ 8) : (tx l).length ≤ 140737488355000 := tx_names (okl_iff.1 h).1 hn
structure Lsr (w : World) (a : Option Addr) (n : Nat) (l : List Bs) : Prop where
  sts : Sts w a n l
  few : n ≤ 2147483648
  len : Lnt l
theorem Lsr.below {w w' : World} {a : Option Addr} {n : Nat} {l : List Bs} (h : Lsr w a n l) (hb : Below w.heap.size w w') : Lsr w' a n l := ⟨h.sts.below hb, h.few, h.len⟩
theorem Lsr.lst {w : World} {a : Option Addr} {n : Nat} {l : List Bs} (h : Lsr w a n l) : Lst w a n l := ⟨h.sts, h.few, fun j => Nat.le_trans (h.len j) (by decide)⟩
set_option maxHeartbeats 4000000 in
theorem refRight_any (a : Option Addr) (n cap : Nat) (l : List Bs) (w : World) (h : Lsr w a n l) :
    Calls Tryd.prog 35 #[.slice a n cap] w fun e w' => e = .returned (.bool (right l)) ∧ Below w.heap.size w w' := by
  have hf := h.few
  have HR := hide (rises_any a n cap l w h.sts (by omega) h.len)
  have HE := hide (right_okl l)
  cases ho : okl l
  · rw [ho] at HR HE
    generalize right l = r at *
    clear h ho
    go_enter Tryd.func35, Tryd.ntmps35
    go_wp2_with fail
    refine (unhide HR).mono ?_
    rintro e w1 ⟨rfl, b1⟩
    have HB := hide b1
    clear b1
    go_wp2
    go_ret
    exact ⟨ret_bool (by rw [unhide HE]; rfl), unhide HB⟩
  · have HF := hide (fun W (hb : Below w.heap.size w W) => fits_any a n cap l W (h.sts.below hb) (by omega) (fun h8 => okl_tx ho (by rw [← h.sts.1]; exact h8)))
    rw [ho] at HR HE
    generalize right l = r at *
    generalize many l = m at *
    clear h ho
    go_enter Tryd.func35, Tryd.ntmps35
    go_wp2_with fail
    refine (unhide HR).mono ?_
    rintro e w1 ⟨rfl, b1⟩
    have HF1 := hide (unhide HF w1 b1)
    have HB := hide b1
    clear b1 HF
    go_wp2_with fail
    refine (unhide HF1).mono ?_
    rintro e w2 ⟨rfl, rfl⟩
    go_wp2
    go_ret
    exact ⟨ret_bool (by rw [unhide HE]; rfl), unhide HB⟩
set_option maxHeartbeats 4000000 in
theorem refPrint_any (a : Option Addr) (n cap : Nat) (l : List Bs) (w : World) (h : Lsr w a n l) :
    Calls Tryd.prog 34 #[.slice a n cap] w fun e w' => e = .returned (.tuple #[S (print l).1, .int .i64 ((print l).2 : Int)]) ∧ Below w.heap.size w w' := by
  have hf := h.few
  have HR := hide (rises_any a n cap l w h.sts (by omega) h.len)
  have HE := hide (print_okl l)
  cases ho : okl l
  · rw [ho] at HR HE
    generalize print l = r at *
    clear h ho
    go_enter Tryd.func34, Tryd.ntmps34
    go_wp2_with fail
    refine (unhide HR).mono ?_
    rintro e w1 ⟨rfl, b1⟩
    have HB := hide b1
    clear b1
    go_wp2
    go_ret2
    rw [unhide HE]
    exact ⟨rfl, unhide HB⟩
  · have hnl := h.sts.1
    have HF := hide (fun W (hb : Below w.heap.size w W) => fits_any a n cap l W (h.sts.below hb) (by omega) (fun h8 => okl_tx ho (by rw [← hnl]; exact h8)))
    rw [ho] at HR HE
    have HTX : Hid (many l = false → ∀ W, Below w.heap.size w W → Calls Tryd.prog 50 #[.slice a n cap] W fun e w' => e = .returned (S (tx l)) ∧ w' = W) := hide (fun hm W hb => by
      refine refText_any a n cap l W (h.sts.below hb) ?_ (by omega)
      simp only [many, Bool.or_eq_false_iff, decide_eq_false_iff_not, Nat.not_lt] at hm
      omega)
    generalize print l = r at *
    generalize tx l = t at *
    clear h ho hnl
    cases hm : many l
    · have HT2 := hide (unhide HTX hm)
      rw [hm] at HF HE
      clear HTX hm
      go_enter Tryd.func34, Tryd.ntmps34
      go_wp2_with fail
      refine (unhide HR).mono ?_
      rintro e w1 ⟨rfl, b1⟩
      have HF1 := hide (unhide HF w1 b1)
      have HT3 := hide (unhide HT2 w1 b1)
      have HB := hide b1
      clear b1 HF HT2
      go_wp2_with fail
      refine (unhide HF1).mono ?_
      rintro e w2 ⟨rfl, rfl⟩
      go_wp2_with fail
      refine (unhide HT3).mono ?_
      rintro e w3 ⟨rfl, rfl⟩
      go_wp2
      go_ret2
      rw [unhide HE]
      exact ⟨rfl, unhide HB⟩
    · rw [hm] at HF HE
      clear HTX hm
      go_enter Tryd.func34, Tryd.ntmps34
      go_wp2_with fail
      refine (unhide HR).mono ?_
      rintro e w1 ⟨rfl, b1⟩
      have HF1 := hide (unhide HF w1 b1)
      have HB := hide b1
      clear b1 HF
      go_wp2_with fail
      refine (unhide HF1).mono ?_
      rintro e w2 ⟨rfl, rfl⟩
      go_wp2
      go_ret2
      rw [unhide HE]
      exact ⟨rfl, unhide HB⟩
end Go.Proofs.YtknlafgaagimjaaDoor
