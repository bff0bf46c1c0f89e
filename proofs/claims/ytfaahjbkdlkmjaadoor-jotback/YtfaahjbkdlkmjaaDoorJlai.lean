import Derived.Test.YtfaahjbkdlkmjaaDoorRows
import Derived.Test.YtfaahjbkdlkmjaaDoorJca
import Derived.Lib.LaidTab
import Derived.Lib.LaidU8T
import Derived.WalkKit
import Derived.ProofKit
import Derived.OpenShut
import Derived.ShutString
import Derived.ChangeSame
import Derived.ChangeVars
import Derived.JoinedOf
import Derived.RowKit
import Derived.RowKitTokens
import Derived.LaidLaws
import Derived.LaidHandle
import Derived.Handed
import Derived.Stop.Joined
/- Jot: the frame of the cards. -/
namespace Go.Proofs.YtfaahjbkdlkmjaaDoor
open Go.ChangeShapes Go.WideShapes Go.RowKit Go.Lib
theorem own_knob : ownKnob Tryd.prog.godebug = none := by kernel_rfl
def laidL : List (String × DataW Unit) := Rows.jotShortRow.laid
theorem acc_eq : Rows.laid_unicode_utf8_acceptRanges = acceptData := by kernel_rfl
theorem first_eq : Rows.laid_unicode_utf8_first = firstData := by kernel_rfl
theorem u8x : U8Extra Tryd.prog Tryd.lays260_ren := { n3 := by kernel_rfl, n4 := by kernel_rfl, y3 := by kernel_rfl, y4 := by kernel_rfl, c5 := by kernel_rfl, c119 := by kernel_rfl, c138 := by kernel_rfl }
theorem t_pow : (Tryd.prog.globals[0]?).map (fun g => g.type) = some 117 := by kernel_rfl
theorem und117 : Tryd.prog.underlying 117 = some (.array 20 103) := by kernel_rfl
theorem und103 : Tryd.prog.underlying 103 = some (.int .u64) := by kernel_rfl
theorem cel103 : Tryd.prog.cellsOf 103 = 1 := by kernel_rfl
theorem cel117 : Tryd.prog.cellsOf 117 = 20 := by kernel_rfl
theorem pow_eq : (Rows.laid_internal_strconv_uint64pow10 : DataW Unit) = tabData .u64 pow10Tab := by kernel_rfl
theorem var_heap {P : Program} {W : World} {name : String} {cs : Array Value} {g : Nat} (hg : P.globalNamed name = some g) (h : W.var? P name = some cs) : ∃ T fz, W.heap[g]? = some (.cells cs T fz) := by
  unfold World.var? at h
  rw [hg] at h
  simp only [Option.bind_some] at h
  split at h
  · rename_i c T fz hh
    obtain rfl := Option.some.inj h
    exact ⟨T, fz, hh⟩
  · cases h
theorem env_of {W : World} (h : laidMetH Tryd.prog laidL W) : Env W := by
  have h1 : laidMet Tryd.prog laidL W := h
  have hT : Utf8Tabs 1 2 W := utf8Tabs_of_readsT (ρ := Tryd.lays260_ren) (U8Types.of260 Tryd.lays260) u8x
    (by rw [← first_eq]; exact laidMet.reads h1 (List.mem_cons_of_mem _ (List.mem_cons_of_mem _ (List.mem_cons_of_mem _ (List.mem_cons_of_mem _ List.mem_cons_self))))) (by rw [← acc_eq]; exact laidMet.reads h1 (List.mem_cons_of_mem _ (List.mem_cons_of_mem _ (List.mem_cons_of_mem _ List.mem_cons_self))))
  refine ⟨hT, ?_⟩
  obtain ⟨ps, ⟨g0, t0, cs0, f0, p0, q0, hg0, ht0, hv0, hd0, ⟨g1, t1, cs1, f1, p1, q1, hg1, ht1, hv1, hd1, ⟨g2, t2, cs2, f2, p2, q2, hg2, ht2, hv2, hd2, hr2, e2⟩, e1⟩, e0⟩, hnd, hrows⟩ := h1
  have k2 : g2 = 0 := Option.some.inj (hg2.symm.trans (by kernel_rfl))
  subst k2
  have u2 : t2 = 117 := Option.some.inj (ht2.symm.trans t_pow)
  subst u2
  have c2 := cells_of_tab und117 und103 cel103 cel117 (pow_eq ▸ hd2)
  obtain ⟨T2, z2, x2⟩ := var_heap hg2 hv2
  obtain ⟨l2⟩ := cs2
  simp only at c2
  subst c2
  exact ⟨T2, z2, x2⟩
/-- The variables as the witness lays them. -/
def flat1 : DataW Unit → List Value
  | .lit (.int k z) => [.int k z]
  | .agg [.lit (.int k z), .lit (.int k' z')] => [.int k z, .int k' z']
  | _ => []
def flat2 : DataW Unit → Array Value
  | .agg l => (l.flatMap flat1).toArray
  | _ => #[]
def putC (cs : Array Value) : Obj → Obj
  | .cells _ t frozen => .cells cs t frozen
  | o => o
def firstCells : Array Value := (firstTab.map fun z => Value.int .u8 z).toArray
theorem wit_met (os : Os) (args : Array Value) : laidMetH Tryd.prog laidL ((({ World.holding Tryd.prog os ⟨#[], #[], []⟩ with heap := (((((World.holding Tryd.prog os ⟨#[], #[], []⟩).heap.modify 0 (putC (flat2 Rows.laid_internal_strconv_uint64pow10))).modify 1 (putC firstCells)).modify 2 (putC (flat2 Rows.laid_unicode_utf8_acceptRanges))).modify 3 (putC (flat2 Rows.laid_math_bits_deBruijn32tab))).modify 4 (putC (flat2 Rows.laid_math_bits_deBruijn64tab)) } : World)).forCall (fun _ _ => 0) ⟨#[], args, []⟩).memory := by
  show laidMet Tryd.prog laidL _
  exact laidMet_of_run' 8 (by kernel_rfl) (by kernel_rfl)
set_option maxRecDepth 20000 in
/-- The frame of a law's proof, with the tables of the world. -/
theorem lift {L : List (String × DataW Unit)} (hL : L = laidL) {H : Type} {enc : TypeId × Value → H} {os : Os} {f : FuncId} {fn : Func} {s : ChangeSpec} (started : os.Started) (noInit : Tryd.checked.prog.inits.idxOf? f = none) (hfn : Tryd.checked.prog.funcs[f]? = some fn)
    (witness : ∃ (w : World) (tape : Tape) (i : Input), w.os = os ∧ (w.forCall tape i).Shaped Tryd.checked.prog ∧ i.vars = [] ∧ Input.okWide Tryd.checked.prog (w.forCall tape i) .any w.heap.size f i ∧
      ((s.pre enc Tryd.checked.prog fn [] false (w.forCall tape i).memory i.args ∧ laidMetH Tryd.prog L (w.forCall tape i).memory) ∧ sizedMet enc Tryd.checked.prog fn (OpenSpec.ofChange s) false (w.forCall tape i).memory i.args) ∧ ({} : Assume).holds Tryd.checked.prog (lone (Frame.enter Tryd.checked.prog f i.args .normal) [] (w.forCall tape i)))
    (contract : ∀ (W : World) (base : Nat) (args : Array Value) (ds gs : List (DataW H)) (before : List MemPlace),
      (∀ (j : Nat) t v, fn.params[j]? = some t → args[j]? = some v → Value.okWide Tryd.checked.prog W .any base t v) →
      DataW.Whole enc Tryd.checked.prog fn.params.toList s.vars false W args.toList ds gs before →
      (DataW.weightsEach Tryd.checked.prog (fn.params.toList ++ s.plain.varTypes Tryd.checked.prog) (ds ++ gs)).all (· ≤ reachBytes) = true → Env W →
      Calls Tryd.checked.prog f args W fun e W' => ∃ v, e = .returned v ∧ s.post enc Tryd.checked.prog fn false true false false W args v W') :
    ReturnsInHanded {} Tryd.checked os f .any (fun w args => (s.pre enc Tryd.prog fn [] false w args ∧ laidMetH Tryd.prog L w) ∧ sizedMet enc Tryd.prog fn (OpenSpec.ofChange s) false w args) (s.post enc Tryd.prog fn false true false false) := by
  refine returnsInHanded_of_calls own_knob started noInit witness ?_
  intro w tape i _ hsh _ hok hpre _
  obtain ⟨_, _, _, fn', hfn', _, _, _, _, hval⟩ := hok
  have e : fn' = fn := Option.some.inj (hfn'.symm.trans hfn)
  subst e
  obtain ⟨⟨⟨ds, gs, before, hw, _⟩, hx⟩, hz⟩ := hpre
  have hw' := DataW.Whole.of_heap (w' := w.forCall tape i) (by rfl) hw
  refine (contract (w.forCall tape i) w.heap.size i.args ds gs before hval hw' (hz.weights hw) (env_of (by rw [← hL]; exact hx.of_heap (by rfl)))).mono fun e W' ⟨v, he, hp⟩ => ?_
  subst he
  exact ChangeSpec.post_blind hp
end Go.Proofs.YtfaahjbkdlkmjaaDoor
