import Derived.Test.YtfaahjbkdlkmjaaDoorJbd
import Derived.BigQuiet
/- Jot: values in memory; may a part be? -/
namespace Go.Proofs.YtfaahjbkdlkmjaaDoor
open Go Go.RowKit Go.Lib
set_option linter.unusedVariables false
set_option linter.unusedSimpArgs false
/-- What the library's variables hold. -/
structure Env (w : World) : Prop where
  u8 : Utf8Tabs 1 2 w
  tab : ∃ T fz, w.heap[0]? = some (.cells (pow10Tab.map fun z => Value.int .u64 z).toArray T fz)
theorem Env.below {w w' : World} (h : Env w) (hb : Below w.heap.size w w') : Env w' := by
  obtain ⟨T, fz, h1⟩ := h.tab
  refine ⟨Utf8Tabs_below h.u8 hb, T, fz, (hb.block 0 ?_).trans h1⟩
  exact (Array.getElem?_eq_some_iff.1 h1).1
theorem Env.pow {w : World} (h : Env w) : Tryd.PowIs w := by
  obtain ⟨T, fz, h1⟩ := h.tab
  have hs : ((Tryd.prog.globals[0]?).map (fun g => g.name)).isSome = true := by kernel_rfl
  have hb : (((Tryd.prog.globals[0]?).map (fun g => g.name)).bind fun nm => Tryd.prog.globalNamed nm) = some 0 := by kernel_rfl
  obtain ⟨nm, hn⟩ := Option.isSome_iff_exists.1 hs
  rw [hn] at hb
  refine ⟨nm, hn, ?_⟩
  have hg : Tryd.prog.globalNamed nm = some 0 := hb
  unfold TabIs World.var?
  rw [hg]
  simp only [Option.bind_some, h1]
def Bnd : Nat := 9223372036854775807
/-- Names in memory. -/
def Nms (W : World) (a : Option Addr) (ns : List Bs) : Prop :=
  ns.length ≤ 9223372036854775807 ∧ (∀ x ∈ ns, x.length ≤ 9223372036854775807) ∧ (0 < ns.length → ∃ p q, a = some ⟨p, q, none⟩ ∧ ∀ k x, ns[k]? = some x → W.cell? ⟨p, q + k, none⟩ = some (S x))
theorem cell_keep {w W : World} {B : Nat} (h : Below B w W) {a : Addr} (ha : a.block < B) : W.cell? a = w.cell? a := by
  unfold World.cell?
  rw [h.block a.block ha]
theorem cell_old {w W : World} (h : Below w.heap.size w W) {a : Addr} {v : Value} (hc : w.cell? a = some v) : W.cell? a = some v :=
  (cell_keep h (World.block_lt_of_cell? _ _ hc)).trans hc
theorem Nms.keep {W W' : World} {a : Option Addr} {ns : List Bs} (h : Nms W a ns) (hb : Below W.heap.size W W') : Nms W' a ns :=
  ⟨h.1, h.2.1, fun h0 => by
    obtain ⟨p, q, e, hc⟩ := h.2.2 h0
    exact ⟨p, q, e, fun k x hx => cell_old hb (hc k x hx)⟩⟩
/-- A value, as its five cells. -/
def cellsJ (k n : Int) (t : Bs) (na : Option Addr) (nl nc : Nat) (xa : Option Addr) (xl xc : Nat) : List Value := [I k, I n, S t, .slice na nl nc, .slice xa xl xc]
def vJ (k n : Int) (t : Bs) (na : Option Addr) (nl nc : Nat) (xa : Option Addr) (xl xc : Nat) : Value := .agg #[I k, I n, S t, .slice na nl nc, .slice xa xl xc]
mutual
/-- The parts of a value whose lists lie at na, xa. -/
def JP (W : World) (na xa : Option Addr) : J → Prop
  | .mk k n t ns xs => t.length ≤ 9223372036854775807 ∧ Nms W na ns ∧ xs.length ≤ 9223372036854775807 ∧ (0 < xs.length → ∃ b o, xa = some ⟨b, o, none⟩ ∧ JsP W b o xs)
/-- Values one behind the other. -/
def JsP (W : World) (b : Nat) : Nat → List J → Prop
  | _, [] => True
  | o, .mk k n t ns xs :: l => (∃ na nc xa xc, (∀ i v, (cellsJ k n t na ns.length nc xa xs.length xc)[i]? = some v → W.cell? ⟨b, o + i, none⟩ = some v) ∧ JP W na xa (.mk k n t ns xs)) ∧ JsP W b (o + 5) l
end
mutual
theorem JP.keep {W W' : World} (hb : Below W.heap.size W W') : ∀ (j : J) {na xa : Option Addr}, JP W na xa j → JP W' na xa j
  | .mk k n t ns xs, na, xa, h => by
    rw [JP] at h ⊢
    obtain ⟨h1, h2, h3, h4⟩ := h
    refine ⟨h1, h2.keep hb, h3, fun h0 => ?_⟩
    obtain ⟨b, o, e, h5⟩ := h4 h0
    exact ⟨b, o, e, JsP.keep hb xs h5⟩
theorem JsP.keep {W W' : World} (hb : Below W.heap.size W W') : ∀ (l : List J) {b o : Nat}, JsP W b o l → JsP W' b o l
  | [], _, _, _ => by rw [JsP]; trivial
  | .mk k n t ns xs :: l, b, o, h => by
    rw [JsP] at h ⊢
    obtain ⟨⟨na, nc, xa, xc, h1, h2⟩, h3⟩ := h
    exact ⟨⟨na, nc, xa, xc, fun i v hi => cell_old hb (h1 i v hi), JP.keep hb _ h2⟩, JsP.keep hb l h3⟩
end
/-- The k-th of some values. -/
theorem JsP.at {W : World} {b : Nat} : ∀ (l : List J) {o : Nat} (i : Nat) (j : J), JsP W b o l → l[i]? = some j →
    ∃ na nc xa xc, (∀ m v, (cellsJ j.k j.n j.t na j.ns.length nc xa j.xs.length xc)[m]? = some v → W.cell? ⟨b, o + i * 5 + m, none⟩ = some v) ∧ JP W na xa j
  | [], _, _, _, _, h => by simp at h
  | .mk k n t ns xs :: l, o, 0, j, h, hj => by
    rw [JsP] at h
    obtain ⟨⟨na, nc, xa, xc, h1, h2⟩, -⟩ := h
    simp only [List.getElem?_cons_zero, Option.some.injEq] at hj
    subst hj
    exact ⟨na, nc, xa, xc, fun m v hm => by rw [Nat.zero_mul, Nat.add_zero]; exact h1 m v hm, h2⟩
  | .mk k n t ns xs :: l, o, i + 1, j, h, hj => by
    rw [JsP] at h
    obtain ⟨na, nc, xa, xc, h1, h2⟩ := JsP.at l i j h.2 (by simpa using hj)
    refine ⟨na, nc, xa, xc, fun m v hm => ?_, h2⟩
    rw [show o + (i + 1) * 5 + m = o + 5 + i * 5 + m by omega]
    exact h1 m v hm
theorem valid_any (s : Bs) (w : World) (hE : Env w) (hs : s.length ≤ 9223372036854775807) : Calls Tryd.prog 111 #[S s] w fun e w' => e = .returned (.bool (validD s)) ∧ Below w.heap.size w w' := by
  have := Tryd.utf8_ValidString ⟨s.toArray⟩ w (by rw [ba_len]; exact hs) hE.u8
  simpa using this
theorem may113 (w : World) : Calls Tryd.prog 113 #[.agg #[]] w fun e w' => e = .returned (.bool true) ∧ Below w.heap.size w w' := by
  go_enter Tryd.func113, Tryd.ntmps113
  go_wp2
  go_ret
  exact ⟨rfl, (Below.refl _ _).alloc (Nat.le_refl _) _⟩
theorem may114 (b : Bool) (w : World) : Calls Tryd.prog 114 #[.bool b] w fun e w' => e = .returned (.bool true) ∧ Below w.heap.size w w' := by
  go_enter Tryd.func114, Tryd.ntmps114
  go_wp2
  go_ret
  exact ⟨rfl, Below.refl _ _⟩
set_option maxHeartbeats 1000000 in
theorem may115 (n : Int) (w : World) : Calls Tryd.prog 115 #[I n] w fun e w' => e = .returned (.bool (decide (-9007199254740991 ≤ n ∧ n ≤ 9007199254740991))) ∧ Below w.heap.size w w' := by
  by_cases h1 : -9007199254740991 ≤ n
  · by_cases h2 : n ≤ 9007199254740991
    · rw [decide_eq_true ⟨h1, h2⟩]
      go_enter Tryd.func115, Tryd.ntmps115
      go_wp2
      go_ret
      exact ⟨rfl, Below.refl _ _⟩
    · rw [decide_eq_false (fun q => h2 q.2)]
      go_enter Tryd.func115, Tryd.ntmps115
      go_wp2
      go_ret
      exact ⟨rfl, Below.refl _ _⟩
  · rw [decide_eq_false (fun q => h1 q.1)]
    go_enter Tryd.func115, Tryd.ntmps115
    go_wp2
    go_ret
    exact ⟨rfl, Below.refl _ _⟩
theorem may116 (s : Bs) (w : World) (hE : Env w) (hs : s.length ≤ 9223372036854775807) : Calls Tryd.prog 116 #[S s] w fun e w' => e = .returned (.bool (validD s)) ∧ Below w.heap.size w w' := by
  have HV := hide (valid_any s w hE hs)
  clear hE
  go_enter Tryd.func116, Tryd.ntmps116
  go_wp2_with fail
  refine (unhide HV).mono ?_
  rintro e w1 ⟨rfl, h1⟩
  go_wp2_with fail
  go_ret
  exact ⟨rfl, h1⟩
theorem may109 (a : Option Addr) (l c : Nat) (w : World) : Calls Tryd.prog 109 #[.slice a l c] w fun e w' => e = .returned (.bool true) ∧ Below w.heap.size w w' := by
  go_enter Tryd.func109, Tryd.ntmps109
  go_wp2
  go_ret
  exact ⟨rfl, Below.refl _ _⟩
end Go.Proofs.YtfaahjbkdlkmjaaDoor
