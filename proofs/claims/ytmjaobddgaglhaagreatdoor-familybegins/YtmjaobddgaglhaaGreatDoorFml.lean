import Derived.Test.YtmjaobddgaglhaaGreatDoorFmi
import Derived.Test.YtmjaobddgaglhaaGreatDoorZdetl
import Derived.Test.YtmjaobddgaglhaaGreatDoorZsmc
/- Both Begins. -/
namespace Go.Proofs.YtmjaobddgaglhaaGreatDoor
open Go.RowKit
set_option maxHeartbeats 4000000
set_option maxRecDepth 8000
/-- What a Begin leaves. -/
def OutQ (F : Value → Array Value) (T : Array Value) (E : Int) (r : List Bs) (w : World) (e : Ending) (w' : World) : Prop := ∃ a cap, e = .returned (.tuple #[.agg (F (.slice a r.length cap)), .agg T, I E]) ∧ OwnS w.heap.size w' (.slice a r.length cap) r ∧ Below w.heap.size w w'
theorem beg_both (id fi : Int) (na : Bs) (pu of9 : Bool) (ch ol : Bs) (un : Int) (sd : List Bs) (idl ab gr li : Int) (su : Bs) (sc : List Bs) (s : Bs) (now : Int) (h_na : na.length ≤ 9223372036854775807) (hdl : sd.length ≤ 140737488355000) (hld : Lns sd) (h_su : su.length ≤ 9223372036854775807) (h_s : s.length ≤ 9223372036854775807) (hsl : sc.length ≤ 140737488355000) (hln : Lns sc) : ∃ (q0 : Int) (q1 q2 : Bs) (q4 q5 q6 q7 q8 q9 q10 q11 q12 q13 : Int) (p0 p1 p2 : Int) (p3 : Bs) (p4 : Int) (p5 : Bool) (p6 p7 : Int) (p8 : Bs) (E : Int) (r : List Bs), r.length ≤ 1000 ∧ (∀ (W : World) (vb : Option Addr) (vd : Nat) (va : Option Addr) (vc : Nat), Sts W vb sd.length sd → Sts W va sc.length sc → Calls Tryz.prog 25 #[I id, I fi, .agg #[S na, .bool pu, .bool of9, S ch, S ol, I un, .slice vb sd.length vd, I idl, I ab, I gr, I li], S su, .slice va sc.length vc, S s, I now] W (OutQ (fun v => #[I q0, S q1, S q2, v, I q4, I q5, I q6, I q7, I q8, I q9, I q10, I q11, I q12, I q13]) #[I p0, I p1, I p2, S p3, I p4, .bool p5, I p6, I p7, S p8] E r W)) ∧ (∀ (W : World) (vb : Option Addr) (vd : Nat) (va : Option Addr) (vc : Nat), Sts W vb sd.length sd → Sts W va sc.length sc → Calls Tryz.prog 26 #[I id, I fi, .agg #[S na, .bool pu, .bool of9, S ch, S ol, I un, .slice vb sd.length vd, I idl, I ab, I gr, I li], S su, .slice va sc.length vc, S s, I now] W (OutQ (fun v => #[I q0, S q1, S q2, v, I q4, I q5, I q6, I q7, I q8, I q9, I q10, I q11, I q12, I q13]) #[I p0, I p1, I p2, S p3, I p4, .bool p5, I p6, I p7, S p8] E r W)) := by
  have B1 := fun (W : World) (vb : Option Addr) (vd : Nat) (va : Option Addr) (vc : Nat) (h1 : Sts W vb sd.length sd) (h2 : Sts W va sc.length sc) => begin_any id fi na pu of9 ch ol un vb vd sd idl ab gr li su va vc sc s now W h_na h1 hdl hld h_su h2 hsl hln
  have B2 := fun (W : World) (vb : Option Addr) (vd : Nat) (va : Option Addr) (vc : Nat) (h1 : Sts W vb sd.length sd) (h2 : Sts W va sc.length sc) => rbegin_any id fi na pu of9 ch ol un vb vd sd idl ab gr li su va vc sc s now W h_na h1 hdl hld h_su h_s h2 hsl hln
  cases hok : begOK id fi na pu ch ol un sd idl ab gr li su sc s (nr now)
  · rw [hok] at B1 B2
    refine ⟨0, [], [], 0, 0, 0, 0, 0, 0, 0, 0, 0, 0, 0, 0, 0, [], 0, false, 0, 0, [], 1, [], by simp, fun W vb vd va vc h1 h2 => (B1 W vb vd va vc h1 h2).mono fun e w' q => ⟨none, 0, q.1, own_nil _ _, q.2⟩, fun W vb vd va vc h1 h2 => (B2 W vb vd va vc h1 h2).mono fun e w' q => ⟨none, 0, q.1, own_nil _ _, q.2⟩⟩
  · rw [hok] at B1 B2
    have hshn : sc.length ≤ 1000 := by
      simp only [begOK, famOK, Bool.and_eq_true] at hok
      exact (shn_right hok.2.2.2.2.2.2.2.1).1
    exact ⟨id, na, su, nr now, nr now, idl, ab, gr, 1, fi, 1, 0, 0, fi, id, 1, hsh fi s, nr now, false, 0, 0, [], 0, sc, hshn, B1, B2⟩
/-- In the midst of a region that calls Begin, and lays what it gives into two new boxes. -/
structure WC (K : Nat) (W0 : World) (F : Value → Array Value) (Z T Y : Array Value) (r : List Bs) (c : Option Addr × Nat × Nat × Nat) (L : Nat → Bool) (W : World) : Prop where
  be : Below W0.heap.size W0 W
  own : L K = true → OwnS W0.heap.size W (.slice c.1 r.length c.2.1) r
  ra : L (K + 5) = true → W0.heap.size ≤ c.2.2.1 ∧ W.heap[c.2.2.1]? = some (.cells (if L (K + 7) then F (.slice c.1 r.length c.2.1) else Z) 24 (0, 0))
  rb : L (K + 6) = true → W0.heap.size ≤ c.2.2.2 ∧ W.heap[c.2.2.2]? = some (.cells (if L (K + 8) then T else Y) 26 (0, 0))
  o1 : L (K + 7) = true → L (K + 5) = true ∧ L K = true
  o2 : L (K + 8) = true → L (K + 6) = true
  o3 : L (K + 1) = true → L K = true
  o4 : L (K + 2) = true → L K = true
section
variable {K : Nat} {W0 : World} {F : Value → Array Value} {Z T Y : Array Value} {r : List Bs} {c : Option Addr × Nat × Nat × Nat} {L : Nat → Bool} {W W2 : World}
theorem WC.pure (h : WC K W0 F Z T Y r c L W) (i : Nat) (hi : i < K ∨ i = K + 3 ∨ i = K + 4 ∨ i = K + 9) : WC K W0 F Z T Y r c (upd L i) W := by
  refine ⟨h.be, fun e => h.own ?_, fun e => ?_, fun e => ?_, fun e => ?_, fun e => ?_, fun e => ?_, fun e => ?_⟩
  · rw [upd_ne (by omega)] at e; exact e
  · rw [upd_ne (by omega)] at e; rw [upd_ne (by omega)]; exact h.ra e
  · rw [upd_ne (by omega)] at e; rw [upd_ne (by omega)]; exact h.rb e
  · rw [upd_ne (by omega)] at e; exact ⟨upd_of (h.o1 e).1, upd_of (h.o1 e).2⟩
  · rw [upd_ne (by omega)] at e; exact upd_of (h.o2 e)
  · rw [upd_ne (by omega)] at e; exact upd_of (h.o3 e)
  · rw [upd_ne (by omega)] at e; exact upd_of (h.o4 e)
theorem WC.dep (h : WC K W0 F Z T Y r c L W) (i : Nat) (hi : i = K + 1 ∨ i = K + 2) (hK : L K = true) : WC K W0 F Z T Y r c (upd L i) W := by
  refine ⟨h.be, fun e => h.own hK, fun e => ?_, fun e => ?_, fun e => ?_, fun e => ?_, fun e => upd_of hK, fun e => upd_of hK⟩
  · rw [upd_ne (by omega)] at e; rw [upd_ne (by omega)]; exact h.ra e
  · rw [upd_ne (by omega)] at e; rw [upd_ne (by omega)]; exact h.rb e
  · rw [upd_ne (by omega)] at e; exact ⟨upd_of (h.o1 e).1, upd_of (h.o1 e).2⟩
  · rw [upd_ne (by omega)] at e; exact upd_of (h.o2 e)
theorem WC.call (h : WC K W0 F Z T Y r c L W) (hb : Below W.heap.size W W2) : WC K W0 F Z T Y r c L W2 :=
  ⟨h.be.trans (hb.mono h.be.size), fun e => (h.own e).below hb (Nat.le_refl _), fun e => ⟨(h.ra e).1, (hb.block _ (lt_of_row (h.ra e).2)).trans (h.ra e).2⟩, fun e => ⟨(h.rb e).1, (hb.block _ (lt_of_row (h.rb e).2)).trans (h.rb e).2⟩, h.o1, h.o2, h.o3, h.o4⟩
theorem WC.got (h : WC K W0 F Z T Y r c L W) (hK : L K = false) {a : Option Addr} {cap : Nat} (ho : OwnS W.heap.size W2 (.slice a r.length cap) r) (hb : Below W.heap.size W W2) : WC K W0 F Z T Y r (a, cap, c.2.2.1, c.2.2.2) (upd L K) W2 := by
  have h2 := h.call hb
  have h7 : L (K + 7) = false := by cases q : L (K + 7) with | false => rfl | true => rw [(h.o1 q).2] at hK; cases hK
  refine ⟨h2.be, fun e => ho.below (Below.refl _ _) h.be.size, fun e => ?_, fun e => ?_, fun e => ?_, fun e => ?_, fun _ => upd_eq, fun _ => upd_eq⟩
  · rw [upd_ne (by omega)] at e
    have := h2.ra e
    rw [h7] at this
    rw [upd_ne (by omega), h7]
    exact this
  · rw [upd_ne (by omega)] at e
    rw [upd_ne (by omega)]
    exact h2.rb e
  · rw [upd_ne (by omega), h7] at e; cases e
  · rw [upd_ne (by omega)] at e; exact upd_of (h.o2 e)
theorem WC.al1 (h : WC K W0 F Z T Y r c L W) (h5 : L (K + 5) = false) : WC K W0 F Z T Y r (c.1, c.2.1, W.heap.size, c.2.2.2) (upd L (K + 5)) (W.alloc (.cells Z 24)) := by
  have h2 := h.call ((Below.refl _ W).alloc (Nat.le_refl _) (.cells Z 24))
  have h7 : L (K + 7) = false := by cases q : L (K + 7) with | false => rfl | true => rw [(h.o1 q).1] at h5; cases h5
  refine ⟨h2.be, fun e => h2.own (by rw [upd_ne (by omega)] at e; exact e), fun _ => ⟨h.be.size, ?_⟩, fun e => ?_, fun e => ?_, fun e => ?_, fun e => ?_, fun e => ?_⟩
  · rw [upd_ne (by omega), h7]; exact heap_alloc_new _ _
  · rw [upd_ne (by omega)] at e; rw [upd_ne (by omega)]; exact h2.rb e
  · rw [upd_ne (by omega), h7] at e; cases e
  · rw [upd_ne (by omega)] at e; exact upd_of (h.o2 e)
  · rw [upd_ne (by omega)] at e; exact upd_of (h.o3 e)
  · rw [upd_ne (by omega)] at e; exact upd_of (h.o4 e)
theorem WC.al2 (h : WC K W0 F Z T Y r c L W) (h6 : L (K + 6) = false) : WC K W0 F Z T Y r (c.1, c.2.1, c.2.2.1, W.heap.size) (upd L (K + 6)) (W.alloc (.cells Y 26)) := by
  have h2 := h.call ((Below.refl _ W).alloc (Nat.le_refl _) (.cells Y 26))
  have h8 : L (K + 8) = false := by cases q : L (K + 8) with | false => rfl | true => rw [h.o2 q] at h6; cases h6
  refine ⟨h2.be, fun e => h2.own (by rw [upd_ne (by omega)] at e; exact e), fun e => ?_, fun _ => ⟨h.be.size, ?_⟩, fun e => ?_, fun e => ?_, fun e => ?_, fun e => ?_⟩
  · rw [upd_ne (by omega)] at e; rw [upd_ne (by omega)]; exact h2.ra e
  · rw [upd_ne (by omega), h8]; exact heap_alloc_new _ _
  · rw [upd_ne (by omega)] at e; exact ⟨upd_of (h.o1 e).1, upd_of (h.o1 e).2⟩
  · rw [upd_ne (by omega), h8] at e; cases e
  · rw [upd_ne (by omega)] at e; exact upd_of (h.o3 e)
  · rw [upd_ne (by omega)] at e; exact upd_of (h.o4 e)
theorem WC.st1 (h : WC K W0 F Z T Y r c L W) (h5 : L (K + 5) = true) (hK : L K = true) : WC K W0 F Z T Y r c (upd L (K + 7)) (W.setRow c.2.2.1 (F (.slice c.1 r.length c.2.1))) := by
  obtain ⟨k1, k2⟩ := h.ra h5
  refine ⟨bel_set h.be _ _ k1 h.be.size, fun _ => own_set2 (h.own hK) k2 (by decide) _, fun _ => ⟨k1, ?_⟩, fun e => ?_, fun _ => ⟨upd_of h5, upd_of hK⟩, fun e => ?_, fun e => ?_, fun e => ?_⟩
  · rw [upd_eq]; exact setRow_row k2
  · rw [upd_ne (by omega)] at e
    obtain ⟨k3, k4⟩ := h.rb e
    rw [upd_ne (by omega)]
    refine ⟨k3, row_set k4 ?_⟩
    intro q
    rw [q, k2] at k4
    simp at k4
  · rw [upd_ne (by omega)] at e; exact upd_of (h.o2 e)
  · rw [upd_ne (by omega)] at e; exact upd_of (h.o3 e)
  · rw [upd_ne (by omega)] at e; exact upd_of (h.o4 e)
theorem WC.st2 (h : WC K W0 F Z T Y r c L W) (h6 : L (K + 6) = true) : WC K W0 F Z T Y r c (upd L (K + 8)) (W.setRow c.2.2.2 T) := by
  obtain ⟨k1, k2⟩ := h.rb h6
  refine ⟨bel_set h.be _ _ k1 h.be.size, fun e => own_set2 (h.own (by rw [upd_ne (by omega)] at e; exact e)) k2 (by decide) _, fun e => ?_, fun _ => ⟨k1, ?_⟩, fun e => ?_, fun _ => upd_of h6, fun e => ?_, fun e => ?_⟩
  · rw [upd_ne (by omega)] at e
    obtain ⟨k3, k4⟩ := h.ra e
    rw [upd_ne (by omega)]
    refine ⟨k3, row_set k4 ?_⟩
    intro q
    rw [q, k2] at k4
    simp at k4
  · rw [upd_eq]; exact setRow_row k2
  · rw [upd_ne (by omega)] at e; exact ⟨upd_of (h.o1 e).1, upd_of (h.o1 e).2⟩
  · rw [upd_ne (by omega)] at e; exact upd_of (h.o3 e)
  · rw [upd_ne (by omega)] at e; exact upd_of (h.o4 e)
end
def fb9T : List (Op × Option Tmp × Option (Nat × Bool)) := [
  (.move (.tmp 6), some 51, none),
  (.move (.tmp 7), some 52, none),
  (.indexAddr 51 (.tmp 51) (.tmp 52), some 53, none),
  (.fieldAddr 50 (.tmp 53) 0, some 54, none),
  (.load 3 (.tmp 54), some 55, none),
  (.move (.tmp 6), some 56, none),
  (.move (.tmp 7), some 57, none),
  (.indexAddr 51 (.tmp 56) (.tmp 57), some 58, none),
  (.fieldAddr 50 (.tmp 58) 1, some 59, none),
  (.load 3 (.tmp 59), some 60, none),
  (.load 48 (.tmp 8), some 61, none),
  (.move (.tmp 6), some 62, none),
  (.move (.tmp 7), some 63, none),
  (.indexAddr 51 (.tmp 62) (.tmp 63), some 64, none),
  (.fieldAddr 50 (.tmp 64) 4, some 65, none),
  (.load 9 (.tmp 65), some 66, none),
  (.move (.tmp 9), some 67, none),
  (.move (.tmp 6), some 68, none),
  (.move (.tmp 7), some 69, none),
  (.indexAddr 51 (.tmp 68) (.tmp 69), some 70, none),
  (.fieldAddr 50 (.tmp 70) 5, some 71, none),
  (.load 9 (.tmp 71), some 72, none),
  (.move (.tmp 6), some 73, none),
  (.move (.tmp 7), some 74, none),
  (.indexAddr 51 (.tmp 73) (.tmp 74), some 75, none),
  (.fieldAddr 50 (.tmp 75) 2, some 76, none),
  (.load 3 (.tmp 76), some 77, none),
  (.call { callee := .value (.func 25), args := #[(.tmp 55), (.tmp 60), (.tmp 61), (.tmp 66), (.tmp 67), (.tmp 72), (.tmp 77)], argTypes := #[3, 3, 48, 9, 22, 9, 3] }, some 78, none),
  (.move (.tmp 78), some 50, none),
  (.extract (.tmp 50) 0, some 79, none),
  (.extract (.tmp 50) 1, some 80, none),
  (.extract (.tmp 50) 2, some 81, none),
  (.alloc 24, some 10, none),
  (.alloc 26, some 11, none),
  (.store 24 (.tmp 10) (.tmp 79), none, none),
  (.store 26 (.tmp 11) (.tmp 80), none, none),
  (.assign (.tmp 81), some 12, none)]
def fb9V (g o : Nat) (k id fi : Int) (CL : Array Value) (su : Bs) (vs : Value) (s : Bs) (now : Int) (F : Value → Array Value) (T : Array Value) (E : Int) (n : Nat) (c : Option Addr × Nat × Nat × Nat) : Nat → Value
  | 0 => .slice (some ⟨g, 0, none⟩) 3 3
  | 1 => I k
  | 2 => .pointer (some ⟨g, o, none⟩)
  | 3 => .pointer (some ⟨g, o, none⟩)
  | 4 => I id
  | 5 => .slice (some ⟨g, 0, none⟩) 3 3
  | 6 => I k
  | 7 => .pointer (some ⟨g, o, none⟩)
  | 8 => .pointer (some ⟨g, o + 1, none⟩)
  | 9 => I fi
  | 10 => .agg CL
  | 11 => .slice (some ⟨g, 0, none⟩) 3 3
  | 12 => I k
  | 13 => .pointer (some ⟨g, o, none⟩)
  | 14 => .pointer (some ⟨g, o + 14, none⟩)
  | 15 => S su
  | 16 => vs
  | 17 => .slice (some ⟨g, 0, none⟩) 3 3
  | 18 => I k
  | 19 => .pointer (some ⟨g, o, none⟩)
  | 20 => .pointer (some ⟨g, o + 15, none⟩)
  | 21 => S s
  | 22 => .slice (some ⟨g, 0, none⟩) 3 3
  | 23 => I k
  | 24 => .pointer (some ⟨g, o, none⟩)
  | 25 => .pointer (some ⟨g, o + 2, none⟩)
  | 26 => I now
  | 27 => .tuple #[.agg (F (.slice c.1 n c.2.1)), .agg T, I E]
  | 28 => .tuple #[.agg (F (.slice c.1 n c.2.1)), .agg T, I E]
  | 29 => .agg (F (.slice c.1 n c.2.1))
  | 30 => .agg T
  | 31 => I E
  | 32 => ptr c.2.2.1
  | 33 => ptr c.2.2.2
  | 34 => undef
  | 35 => undef
  | 36 => I E
  | _ => undef
theorem fb9V_c {g o : Nat} {k id fi : Int} {CL : Array Value} {su : Bs} {vs : Value} {s : Bs} {now : Int} {F : Value → Array Value} {T : Array Value} {E : Int} {n : Nat} {a a' : Option Addr} {p p' b1 b2 : Nat} {j : Nat} (h : j ≠ 27) (h1 : j ≠ 28) (h2 : j ≠ 29) : fb9V g o k id fi CL su vs s now F T E n (a, p, b1, b2) j = fb9V g o k id fi CL su vs s now F T E n (a', p', b1, b2) j := by
  match j, h, h1, h2 with
  | 0, _, _, _ => rfl
  | 1, _, _, _ => rfl
  | 2, _, _, _ => rfl
  | 3, _, _, _ => rfl
  | 4, _, _, _ => rfl
  | 5, _, _, _ => rfl
  | 6, _, _, _ => rfl
  | 7, _, _, _ => rfl
  | 8, _, _, _ => rfl
  | 9, _, _, _ => rfl
  | 10, _, _, _ => rfl
  | 11, _, _, _ => rfl
  | 12, _, _, _ => rfl
  | 13, _, _, _ => rfl
  | 14, _, _, _ => rfl
  | 15, _, _, _ => rfl
  | 16, _, _, _ => rfl
  | 17, _, _, _ => rfl
  | 18, _, _, _ => rfl
  | 19, _, _, _ => rfl
  | 20, _, _, _ => rfl
  | 21, _, _, _ => rfl
  | 22, _, _, _ => rfl
  | 23, _, _, _ => rfl
  | 24, _, _, _ => rfl
  | 25, _, _, _ => rfl
  | 26, _, _, _ => rfl
  | 27, h, _, _ => exact absurd rfl h
  | 28, _, h, _ => exact absurd rfl h
  | 29, _, _, h => exact absurd rfl h
  | 30, _, _, _ => rfl
  | 31, _, _, _ => rfl
  | 32, _, _, _ => rfl
  | 33, _, _, _ => rfl
  | 34, _, _, _ => rfl
  | 35, _, _, _ => rfl
  | 36, _, _, _ => rfl
  | (q + 37), _, _, _ => rfl
theorem fb9V_5 {g o : Nat} {k id fi : Int} {CL : Array Value} {su : Bs} {vs : Value} {s : Bs} {now : Int} {F : Value → Array Value} {T : Array Value} {E : Int} {n : Nat} {a : Option Addr} {p b1 b2 b3 : Nat} {j : Nat} (h : j ≠ 32) : fb9V g o k id fi CL su vs s now F T E n (a, p, b1, b2) j = fb9V g o k id fi CL su vs s now F T E n (a, p, b3, b2) j := by
  match j, h with
  | 0, _ => rfl
  | 1, _ => rfl
  | 2, _ => rfl
  | 3, _ => rfl
  | 4, _ => rfl
  | 5, _ => rfl
  | 6, _ => rfl
  | 7, _ => rfl
  | 8, _ => rfl
  | 9, _ => rfl
  | 10, _ => rfl
  | 11, _ => rfl
  | 12, _ => rfl
  | 13, _ => rfl
  | 14, _ => rfl
  | 15, _ => rfl
  | 16, _ => rfl
  | 17, _ => rfl
  | 18, _ => rfl
  | 19, _ => rfl
  | 20, _ => rfl
  | 21, _ => rfl
  | 22, _ => rfl
  | 23, _ => rfl
  | 24, _ => rfl
  | 25, _ => rfl
  | 26, _ => rfl
  | 27, _ => rfl
  | 28, _ => rfl
  | 29, _ => rfl
  | 30, _ => rfl
  | 31, _ => rfl
  | 32, h => exact absurd rfl h
  | 33, _ => rfl
  | 34, _ => rfl
  | 35, _ => rfl
  | 36, _ => rfl
  | (q + 37), _ => rfl
theorem fb9V_6 {g o : Nat} {k id fi : Int} {CL : Array Value} {su : Bs} {vs : Value} {s : Bs} {now : Int} {F : Value → Array Value} {T : Array Value} {E : Int} {n : Nat} {a : Option Addr} {p b1 b2 b3 : Nat} {j : Nat} (h : j ≠ 33) : fb9V g o k id fi CL su vs s now F T E n (a, p, b1, b2) j = fb9V g o k id fi CL su vs s now F T E n (a, p, b1, b3) j := by
  match j, h with
  | 0, _ => rfl
  | 1, _ => rfl
  | 2, _ => rfl
  | 3, _ => rfl
  | 4, _ => rfl
  | 5, _ => rfl
  | 6, _ => rfl
  | 7, _ => rfl
  | 8, _ => rfl
  | 9, _ => rfl
  | 10, _ => rfl
  | 11, _ => rfl
  | 12, _ => rfl
  | 13, _ => rfl
  | 14, _ => rfl
  | 15, _ => rfl
  | 16, _ => rfl
  | 17, _ => rfl
  | 18, _ => rfl
  | 19, _ => rfl
  | 20, _ => rfl
  | 21, _ => rfl
  | 22, _ => rfl
  | 23, _ => rfl
  | 24, _ => rfl
  | 25, _ => rfl
  | 26, _ => rfl
  | 27, _ => rfl
  | 28, _ => rfl
  | 29, _ => rfl
  | 30, _ => rfl
  | 31, _ => rfl
  | 32, _ => rfl
  | 33, h => exact absurd rfl h
  | 34, _ => rfl
  | 35, _ => rfl
  | 36, _ => rfl
  | (q + 37), _ => rfl
def fb10T : List (Op × Option Tmp × Option (Nat × Bool)) := [
  (.move (.tmp 6), some 83, none),
  (.move (.tmp 7), some 84, none),
  (.indexAddr 51 (.tmp 83) (.tmp 84), some 85, none),
  (.fieldAddr 50 (.tmp 85) 0, some 86, none),
  (.load 3 (.tmp 86), some 87, none),
  (.move (.tmp 6), some 88, none),
  (.move (.tmp 7), some 89, none),
  (.indexAddr 51 (.tmp 88) (.tmp 89), some 90, none),
  (.fieldAddr 50 (.tmp 90) 1, some 91, none),
  (.load 3 (.tmp 91), some 92, none),
  (.move (.tmp 6), some 93, none),
  (.move (.tmp 7), some 94, none),
  (.indexAddr 51 (.tmp 93) (.tmp 94), some 95, none),
  (.fieldAddr 50 (.tmp 95) 3, some 96, none),
  (.load 48 (.tmp 96), some 97, none),
  (.move (.tmp 6), some 98, none),
  (.move (.tmp 7), some 99, none),
  (.indexAddr 51 (.tmp 98) (.tmp 99), some 100, none),
  (.fieldAddr 50 (.tmp 100) 4, some 101, none),
  (.load 9 (.tmp 101), some 102, none),
  (.move (.tmp 6), some 103, none),
  (.move (.tmp 7), some 104, none),
  (.indexAddr 51 (.tmp 103) (.tmp 104), some 105, none),
  (.fieldAddr 50 (.tmp 105) 6, some 106, none),
  (.load 22 (.tmp 106), some 107, none),
  (.move (.tmp 6), some 108, none),
  (.move (.tmp 7), some 109, none),
  (.indexAddr 51 (.tmp 108) (.tmp 109), some 110, none),
  (.fieldAddr 50 (.tmp 110) 5, some 111, none),
  (.load 9 (.tmp 111), some 112, none),
  (.move (.tmp 6), some 113, none),
  (.move (.tmp 7), some 114, none),
  (.indexAddr 51 (.tmp 113) (.tmp 114), some 115, none),
  (.fieldAddr 50 (.tmp 115) 2, some 116, none),
  (.load 3 (.tmp 116), some 117, none),
  (.call { callee := .value (.func 26), args := #[(.tmp 87), (.tmp 92), (.tmp 97), (.tmp 102), (.tmp 107), (.tmp 112), (.tmp 117)], argTypes := #[3, 3, 48, 9, 22, 9, 3] }, some 118, none),
  (.move (.tmp 118), some 82, none),
  (.extract (.tmp 82) 0, some 119, none),
  (.extract (.tmp 82) 1, some 120, none),
  (.extract (.tmp 82) 2, some 121, none),
  (.alloc 24, some 13, none),
  (.alloc 26, some 14, none),
  (.store 24 (.tmp 13) (.tmp 119), none, none),
  (.store 26 (.tmp 14) (.tmp 120), none, none),
  (.assign (.tmp 121), some 15, none)]
def fb10V (g o : Nat) (k id fi : Int) (CL : Array Value) (su : Bs) (vs : Value) (s : Bs) (now : Int) (F : Value → Array Value) (T : Array Value) (E : Int) (n : Nat) (c : Option Addr × Nat × Nat × Nat) : Nat → Value
  | 0 => .slice (some ⟨g, 0, none⟩) 3 3
  | 1 => I k
  | 2 => .pointer (some ⟨g, o, none⟩)
  | 3 => .pointer (some ⟨g, o, none⟩)
  | 4 => I id
  | 5 => .slice (some ⟨g, 0, none⟩) 3 3
  | 6 => I k
  | 7 => .pointer (some ⟨g, o, none⟩)
  | 8 => .pointer (some ⟨g, o + 1, none⟩)
  | 9 => I fi
  | 10 => .slice (some ⟨g, 0, none⟩) 3 3
  | 11 => I k
  | 12 => .pointer (some ⟨g, o, none⟩)
  | 13 => .pointer (some ⟨g, o + 3, none⟩)
  | 14 => .agg CL
  | 15 => .slice (some ⟨g, 0, none⟩) 3 3
  | 16 => I k
  | 17 => .pointer (some ⟨g, o, none⟩)
  | 18 => .pointer (some ⟨g, o + 14, none⟩)
  | 19 => S su
  | 20 => .slice (some ⟨g, 0, none⟩) 3 3
  | 21 => I k
  | 22 => .pointer (some ⟨g, o, none⟩)
  | 23 => .pointer (some ⟨g, o + 16, none⟩)
  | 24 => vs
  | 25 => .slice (some ⟨g, 0, none⟩) 3 3
  | 26 => I k
  | 27 => .pointer (some ⟨g, o, none⟩)
  | 28 => .pointer (some ⟨g, o + 15, none⟩)
  | 29 => S s
  | 30 => .slice (some ⟨g, 0, none⟩) 3 3
  | 31 => I k
  | 32 => .pointer (some ⟨g, o, none⟩)
  | 33 => .pointer (some ⟨g, o + 2, none⟩)
  | 34 => I now
  | 35 => .tuple #[.agg (F (.slice c.1 n c.2.1)), .agg T, I E]
  | 36 => .tuple #[.agg (F (.slice c.1 n c.2.1)), .agg T, I E]
  | 37 => .agg (F (.slice c.1 n c.2.1))
  | 38 => .agg T
  | 39 => I E
  | 40 => ptr c.2.2.1
  | 41 => ptr c.2.2.2
  | 42 => undef
  | 43 => undef
  | 44 => I E
  | _ => undef
theorem fb10V_c {g o : Nat} {k id fi : Int} {CL : Array Value} {su : Bs} {vs : Value} {s : Bs} {now : Int} {F : Value → Array Value} {T : Array Value} {E : Int} {n : Nat} {a a' : Option Addr} {p p' b1 b2 : Nat} {j : Nat} (h : j ≠ 35) (h1 : j ≠ 36) (h2 : j ≠ 37) : fb10V g o k id fi CL su vs s now F T E n (a, p, b1, b2) j = fb10V g o k id fi CL su vs s now F T E n (a', p', b1, b2) j := by
  match j, h, h1, h2 with
  | 0, _, _, _ => rfl
  | 1, _, _, _ => rfl
  | 2, _, _, _ => rfl
  | 3, _, _, _ => rfl
  | 4, _, _, _ => rfl
  | 5, _, _, _ => rfl
  | 6, _, _, _ => rfl
  | 7, _, _, _ => rfl
  | 8, _, _, _ => rfl
  | 9, _, _, _ => rfl
  | 10, _, _, _ => rfl
  | 11, _, _, _ => rfl
  | 12, _, _, _ => rfl
  | 13, _, _, _ => rfl
  | 14, _, _, _ => rfl
  | 15, _, _, _ => rfl
  | 16, _, _, _ => rfl
  | 17, _, _, _ => rfl
  | 18, _, _, _ => rfl
  | 19, _, _, _ => rfl
  | 20, _, _, _ => rfl
  | 21, _, _, _ => rfl
  | 22, _, _, _ => rfl
  | 23, _, _, _ => rfl
  | 24, _, _, _ => rfl
  | 25, _, _, _ => rfl
  | 26, _, _, _ => rfl
  | 27, _, _, _ => rfl
  | 28, _, _, _ => rfl
  | 29, _, _, _ => rfl
  | 30, _, _, _ => rfl
  | 31, _, _, _ => rfl
  | 32, _, _, _ => rfl
  | 33, _, _, _ => rfl
  | 34, _, _, _ => rfl
  | 35, h, _, _ => exact absurd rfl h
  | 36, _, h, _ => exact absurd rfl h
  | 37, _, _, h => exact absurd rfl h
  | 38, _, _, _ => rfl
  | 39, _, _, _ => rfl
  | 40, _, _, _ => rfl
  | 41, _, _, _ => rfl
  | 42, _, _, _ => rfl
  | 43, _, _, _ => rfl
  | 44, _, _, _ => rfl
  | (q + 45), _, _, _ => rfl
theorem fb10V_5 {g o : Nat} {k id fi : Int} {CL : Array Value} {su : Bs} {vs : Value} {s : Bs} {now : Int} {F : Value → Array Value} {T : Array Value} {E : Int} {n : Nat} {a : Option Addr} {p b1 b2 b3 : Nat} {j : Nat} (h : j ≠ 40) : fb10V g o k id fi CL su vs s now F T E n (a, p, b1, b2) j = fb10V g o k id fi CL su vs s now F T E n (a, p, b3, b2) j := by
  match j, h with
  | 0, _ => rfl
  | 1, _ => rfl
  | 2, _ => rfl
  | 3, _ => rfl
  | 4, _ => rfl
  | 5, _ => rfl
  | 6, _ => rfl
  | 7, _ => rfl
  | 8, _ => rfl
  | 9, _ => rfl
  | 10, _ => rfl
  | 11, _ => rfl
  | 12, _ => rfl
  | 13, _ => rfl
  | 14, _ => rfl
  | 15, _ => rfl
  | 16, _ => rfl
  | 17, _ => rfl
  | 18, _ => rfl
  | 19, _ => rfl
  | 20, _ => rfl
  | 21, _ => rfl
  | 22, _ => rfl
  | 23, _ => rfl
  | 24, _ => rfl
  | 25, _ => rfl
  | 26, _ => rfl
  | 27, _ => rfl
  | 28, _ => rfl
  | 29, _ => rfl
  | 30, _ => rfl
  | 31, _ => rfl
  | 32, _ => rfl
  | 33, _ => rfl
  | 34, _ => rfl
  | 35, _ => rfl
  | 36, _ => rfl
  | 37, _ => rfl
  | 38, _ => rfl
  | 39, _ => rfl
  | 40, h => exact absurd rfl h
  | 41, _ => rfl
  | 42, _ => rfl
  | 43, _ => rfl
  | 44, _ => rfl
  | (q + 45), _ => rfl
theorem fb10V_6 {g o : Nat} {k id fi : Int} {CL : Array Value} {su : Bs} {vs : Value} {s : Bs} {now : Int} {F : Value → Array Value} {T : Array Value} {E : Int} {n : Nat} {a : Option Addr} {p b1 b2 b3 : Nat} {j : Nat} (h : j ≠ 41) : fb10V g o k id fi CL su vs s now F T E n (a, p, b1, b2) j = fb10V g o k id fi CL su vs s now F T E n (a, p, b1, b3) j := by
  match j, h with
  | 0, _ => rfl
  | 1, _ => rfl
  | 2, _ => rfl
  | 3, _ => rfl
  | 4, _ => rfl
  | 5, _ => rfl
  | 6, _ => rfl
  | 7, _ => rfl
  | 8, _ => rfl
  | 9, _ => rfl
  | 10, _ => rfl
  | 11, _ => rfl
  | 12, _ => rfl
  | 13, _ => rfl
  | 14, _ => rfl
  | 15, _ => rfl
  | 16, _ => rfl
  | 17, _ => rfl
  | 18, _ => rfl
  | 19, _ => rfl
  | 20, _ => rfl
  | 21, _ => rfl
  | 22, _ => rfl
  | 23, _ => rfl
  | 24, _ => rfl
  | 25, _ => rfl
  | 26, _ => rfl
  | 27, _ => rfl
  | 28, _ => rfl
  | 29, _ => rfl
  | 30, _ => rfl
  | 31, _ => rfl
  | 32, _ => rfl
  | 33, _ => rfl
  | 34, _ => rfl
  | 35, _ => rfl
  | 36, _ => rfl
  | 37, _ => rfl
  | 38, _ => rfl
  | 39, _ => rfl
  | 40, _ => rfl
  | 41, h => exact absurd rfl h
  | 42, _ => rfl
  | 43, _ => rfl
  | 44, _ => rfl
  | (q + 45), _ => rfl
theorem s_ix51 {w : World} (g k : Nat) (hk : k < 3) : (Instr.indexAt 51 (.slice (some ⟨g, 0, none⟩) 3 3) (I (k : Int))).run Tryz.prog w = .ok (.pointer (some ⟨g, k * 17, none⟩)) w := by
  have h1 : (k : Int) < 3 := by omega
  have u := Tryz.underlying51
  have z := Tryz.sizeOf50
  simp [go_sem, u, z, h1]
theorem part17 {W : World} {g o n : Nat} {CS : Array Value} {t : TypeId} {f : Nat × Nat} {vs : List Value} (hr : W.heap[g]? = some (.cells CS t f)) (h : (CS.toList.drop o).take n = vs) (hn : vs.length = n) {j : Nat} {v : Value} (hj : vs[j]? = some v) : W.cell? ⟨g, o + j, none⟩ = some v := by
  have hl : j < n := by rw [← hn]; exact (List.getElem?_eq_some_iff.1 hj).1
  rw [cell_of_row W g (o + j) CS t f hr, ← hj, ← h, List.getElem?_take_of_lt hl, List.getElem?_drop, Array.getElem?_toList]
end Go.Proofs.YtmjaobddgaglhaaGreatDoor
