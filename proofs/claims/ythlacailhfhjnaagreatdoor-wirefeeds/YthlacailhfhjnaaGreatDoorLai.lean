import Derived.Test.YthlacailhfhjnaaGreatDoorRows
import Derived.Test.YthlacailhfhjnaaGreatDoorZwbd
import Derived.Lib.LaidTab
import Derived.WalkKit
import Derived.ProofKit
import Derived.OpenShut
import Derived.ShutString
import Derived.ChangeSame
import Derived.ChangeVars
import Derived.JoinedOf
import Derived.RowKit
import Derived.RowKitTokens
import Derived.LaidLaws
import Derived.LaidHandle
import Derived.Handed
import Derived.Stop.Joined
namespace Go.Proofs.YthlacailhfhjnaaGreatDoor
open Go.ChangeShapes Go.WideShapes Go.RowKit Go.Lib
theorem own : ownKnob Tryz.prog.godebug = none := by kernel_rfl
def laidL : List (String × DataW Unit) := Rows.wireBackRow.laid
theorem g_rng : Tryz.prog.globalNamed "strconv.ErrRange" = some 3 := by kernel_rfl
theorem t_pow : (Tryz.prog.globals[1]?).map (fun g => g.type) = some 157 := by kernel_rfl
theorem t_rng : (Tryz.prog.globals[3]?).map (fun g => g.type) = some 124 := by kernel_rfl
theorem und157 : Tryz.prog.underlying 157 = some (.array 20 140) := by kernel_rfl
theorem und140 : Tryz.prog.underlying 140 = some (.int .u64) := by kernel_rfl
theorem cel140 : Tryz.prog.cellsOf 140 = 1 := by kernel_rfl
theorem cel157 : Tryz.prog.cellsOf 157 = 20 := by kernel_rfl
theorem pow_eq : (Rows.laid_internal_strconv_uint64pow10 : DataW Unit) = tabData .u64 pow10Tab := by kernel_rfl
theorem var_heap {P : Program} {W : World} {name : String} {cs : Array Value} {g : Nat} (hg : P.globalNamed name = some g) (h : W.var? P name = some cs) : ∃ T fz, W.heap[g]? = some (.cells cs T fz) := by
  unfold World.var? at h
  rw [hg] at h
  simp only [Option.bind_some] at h
  split at h
  · rename_i c T fz hh
    obtain rfl := Option.some.inj h
    exact ⟨T, fz, hh⟩
  · cases h
theorem env_of {W : World} (h : laidMetH Tryz.prog laidL W) : Env W.heap.size W := by
  have h1 : laidMet Tryz.prog laidL W := h
  obtain ⟨ps, ⟨g0, t0, cs0, f0, p0, q0, hg0, ht0, hv0, hd0, ⟨g1, t1, cs1, f1, p1, q1, hg1, ht1, hv1, hd1, ⟨g2, t2, cs2, f2, p2, q2, hg2, ht2, hv2, hd2, ⟨g3, t3, cs3, f3, p3, q3, hg3, ht3, hv3, hd3, ⟨g4, t4, cs4, f4, p4, q4, hg4, ht4, hv4, hd4, hr4, e4⟩, e3⟩, e2⟩, e1⟩, e0⟩, hnd, hrows⟩ := h1
  have k2 : g2 = 1 := Option.some.inj (hg2.symm.trans (by kernel_rfl))
  have k3 : g3 = 7 := Option.some.inj (hg3.symm.trans (by kernel_rfl))
  have k4 : g4 = 3 := Option.some.inj (hg4.symm.trans g_rng)
  subst k2 k3 k4
  have u2 : t2 = 157 := Option.some.inj (ht2.symm.trans t_pow)
  have u4 : t4 = 124 := Option.some.inj (ht4.symm.trans t_rng)
  subst u2 u4
  have c2 := cells_of_tab und157 und140 cel140 cel157 (pow_eq ▸ hd2)
  obtain ⟨T2, z2, x2⟩ := var_heap hg2 hv2
  obtain ⟨T3, z3, x3⟩ := var_heap hg3 hv3
  obtain ⟨T4, z4, x4⟩ := var_heap g_rng hv4
  obtain ⟨f', u, v, c4, _, _⟩ := iface_of_trod Tryz.underlying124 hd4
  obtain ⟨l4⟩ := cs4
  obtain ⟨l2⟩ := cs2
  simp only at c2 c4
  subst c2 c4
  exact ⟨Nat.succ_le_of_lt (Array.getElem?_eq_some_iff.1 x3).1, Nat.le_refl _, ⟨T2, z2, x2⟩, u, v, by simpa using World.var?_cell g_rng hv4 0⟩
/-- The variables as the witness lays them. -/
def flat1 : DataW Unit → List Value
  | .lit (.int k z) => [.int k z]
  | .agg [.lit (.int k z), .lit (.int k' z')] => [.int k z, .int k' z']
  | _ => []
def flat2 : DataW Unit → Array Value
  | .agg l => (l.flatMap flat1).toArray
  | _ => #[]
def putC (cs : Array Value) : Obj → Obj
  | .cells _ t frozen => .cells cs t frozen
  | o => o
def errS : Array Value := #[.iface 176 (.pointer (some ⟨13, 0, none⟩))]
def errR : Array Value := #[.iface 176 (.pointer (some ⟨14, 0, none⟩))]
def synB : Obj := .cells #[.string ⟨#[105, 110, 118, 97, 108, 105, 100, 32, 115, 121, 110, 116, 97, 120]⟩] 178
def rngB : Obj := .cells #[.string ⟨#[118, 97, 108, 117, 101, 32, 111, 117, 116, 32, 111, 102, 32, 114, 97, 110, 103, 101]⟩] 178
theorem wit_met (os : Os) (args : Array Value) : laidMetH Tryz.prog laidL ((({ World.holding Tryz.prog os ⟨#[synB, rngB], #[], []⟩ with heap := (((((((World.holding Tryz.prog os ⟨#[synB, rngB], #[], []⟩).heap.modify 1 (putC (flat2 Rows.laid_internal_strconv_uint64pow10))).modify 2 (putC errS)).modify 3 (putC errR)).modify 4 (putC (flat2 Rows.laid_math_bits_deBruijn32tab))).modify 5 (putC (flat2 Rows.laid_math_bits_deBruijn64tab))).modify 6 (putC (flat2 Rows.laid_unicode_utf8_first))).modify 7 (putC (flat2 Rows.laid_unicode_utf8_acceptRanges)) } : World)).forCall (fun _ _ => 0) ⟨#[], args, []⟩).memory := by
  show laidMet Tryz.prog laidL _
  exact laidMet_of_run' 8 (by kernel_rfl) (by kernel_rfl)
set_option maxRecDepth 20000 in
/-- The frame of a law's proof, with the tables of the world. -/
theorem lift {L : List (String × DataW Unit)} (hL : L = laidL) {H : Type} {enc : TypeId × Value → H} {os : Os} {f : FuncId} {fn : Func} {s : ChangeSpec} (started : os.Started) (noInit : Tryz.checked.prog.inits.idxOf? f = none) (hfn : Tryz.checked.prog.funcs[f]? = some fn)
    (witness : ∃ (w : World) (tape : Tape) (i : Input), w.os = os ∧ (w.forCall tape i).Shaped Tryz.checked.prog ∧ i.vars = [] ∧ Input.okWide Tryz.checked.prog (w.forCall tape i) .any w.heap.size f i ∧
      ((s.pre enc Tryz.checked.prog fn [] false (w.forCall tape i).memory i.args ∧ laidMetH Tryz.prog L (w.forCall tape i).memory) ∧ sizedMet enc Tryz.checked.prog fn (OpenSpec.ofChange s) false (w.forCall tape i).memory i.args) ∧ ({} : Assume).holds Tryz.checked.prog (lone (Frame.enter Tryz.checked.prog f i.args .normal) [] (w.forCall tape i)))
    (contract : ∀ (W : World) (base : Nat) (args : Array Value) (ds gs : List (DataW H)) (before : List MemPlace),
      (∀ (j : Nat) t v, fn.params[j]? = some t → args[j]? = some v → Value.okWide Tryz.checked.prog W .any base t v) →
      DataW.Whole enc Tryz.checked.prog fn.params.toList s.vars false W args.toList ds gs before →
      (DataW.weightsEach Tryz.checked.prog (fn.params.toList ++ s.plain.varTypes Tryz.checked.prog) (ds ++ gs)).all (· ≤ reachBytes) = true → Env W.heap.size W →
      Calls Tryz.checked.prog f args W fun e W' => ∃ v, e = .returned v ∧ s.post enc Tryz.checked.prog fn false true false false W args v W') :
    ReturnsInHanded {} Tryz.checked os f .any (fun w args => (s.pre enc Tryz.prog fn [] false w args ∧ laidMetH Tryz.prog L w) ∧ sizedMet enc Tryz.prog fn (OpenSpec.ofChange s) false w args) (s.post enc Tryz.prog fn false true false false) := by
  refine returnsInHanded_of_calls own started noInit witness ?_
  intro w tape i _ hsh _ hok hpre _
  obtain ⟨_, _, _, fn', hfn', _, _, _, _, hval⟩ := hok
  have e : fn' = fn := Option.some.inj (hfn'.symm.trans hfn)
  subst e
  obtain ⟨⟨⟨ds, gs, before, hw, _⟩, hx⟩, hz⟩ := hpre
  have hw' := DataW.Whole.of_heap (w' := w.forCall tape i) (by rfl) hw
  refine (contract (w.forCall tape i) w.heap.size i.args ds gs before hval hw' (hz.weights hw) (env_of (by rw [← hL]; exact hx.of_heap (by rfl)))).mono fun e W' ⟨v, he, hp⟩ => ?_
  subst he
  exact ChangeSpec.post_blind hp
end Go.Proofs.YthlacailhfhjnaaGreatDoor
