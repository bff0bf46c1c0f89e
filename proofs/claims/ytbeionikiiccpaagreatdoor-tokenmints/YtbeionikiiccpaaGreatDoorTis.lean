import Derived.Test.YtbeionikiiccpaaGreatDoorProg
import Derived.WalkKit
import Derived.LaidEql
import Derived.Stop.Asserts
import Derived.RowKitTokens
namespace Go.Proofs.YtbeionikiiccpaaGreatDoor
open Go.RowKit Go.Extern.Stop Go.Stop Go.Extern
set_option maxHeartbeats 4000000
set_option maxRecDepth 8000
/- errors.Is at a target of errors.New's make. -/
theorem isTypeOf (v : Value) (w : World) : (Extern.ReflectliteType.typeOf #[.iface 148 v]).run Tryz.prog w = .ok (.iface 94 (.agg #[.pointer (some ⟨5, 148, none⟩)])) w := by kernel_rfl
theorem isCmp : ∃ C : Array Value → Sem Value, (∀ args w, (callFunc 114 args).run Tryz.prog w = ((C args).run Tryz.prog w).andThen fun v w' => .ok (.value v) w') ∧ ∀ w, (C #[.agg #[.pointer (some ⟨5, 148, none⟩)]]).run Tryz.prog w = .ok (.bool true) w :=
  ⟨Extern.ReflectliteType.method fun t => do Rtype.noPackHeld "Comparable" t; pure (.bool (← typeInfo t).comparable), @run_callFunc_extern Tryz.prog 114 _ _ Tryz.func114 (by kernel_rfl) (by kernel_rfl) (by kernel_rfl) (by kernel_rfl), fun w => by kernel_rfl⟩
theorem isMethodComparable (v : Value) (w : World) : (Go.method 278 94 v "Comparable").run Tryz.prog w = .ok (114, v) w := by kernel_rfl
theorem isComp : (Tryz.prog.info? 148).map (·.comparable) = some true := by kernel_rfl
theorem isSize : (Tryz.prog.info? 166).map (·.size) = some 1 := by kernel_rfl
theorem noIsE (v : Value) (xT : TypeId) (w : World) : (Instr.typeAssert (.iface 148 v) xT 96 true).run Tryz.prog w = .ok (.tuple #[.nilIface, .bool false]) w := run_typeAssert_lacksB Tryz.underlying96 (by kernel_rfl) (by kernel_rfl) v xT w
theorem noUnwrapE (v : Value) (xT : TypeId) (w : World) : (Instr.typeAssert (.iface 148 v) xT 99 true).run Tryz.prog w = .ok (.tuple #[.nilIface, .bool false]) w := run_typeAssert_lacksB Tryz.underlying99 (by kernel_rfl) (by kernel_rfl) v xT w
theorem noUnwrapsE (v : Value) (xT : TypeId) (w : World) : (Instr.typeAssert (.iface 148 v) xT 101 true).run Tryz.prog w = .ok (.tuple #[.nilIface, .bool false]) w := run_typeAssert_lacksB Tryz.underlying101 (by kernel_rfl) (by kernel_rfl) v xT w
theorem noIsW (v : Value) (xT : TypeId) (w : World) : (Instr.typeAssert (.iface 63 v) xT 96 true).run Tryz.prog w = .ok (.tuple #[.nilIface, .bool false]) w := run_typeAssert_lacksB Tryz.underlying96 (by kernel_rfl) (by kernel_rfl) v xT w
theorem hasUnwrapW (v : Value) (xT : TypeId) (w : World) : (Instr.typeAssert (.iface 63 v) xT 99 true).run Tryz.prog w = .ok (.tuple #[.iface 63 v, .bool true]) w := run_typeAssert_hasB Tryz.underlying99 (by kernel_rfl) v xT w
theorem methodUnwrap (v : Value) (w : World) : (Go.method 278 63 v "Unwrap").run Tryz.prog w = .ok (109, v) w := by kernel_rfl
/-- errors.Is(nil, x). -/
theorem is_nil (b : Addr) (w : World) :
    Calls Tryz.prog 20 #[.nilIface, .iface 148 (.pointer (some b))] w fun e w' => e = .returned (.bool false) ∧ w' = w := by
  have hn := run_eql_iface_nil_left (P := Tryz.prog) w 148 (.pointer (some b)) Tryz.underlying36
  go_enter Tryz.func20, Tryz.ntmps20
  go_wp2
  go_ret
  exact ⟨rfl, rfl⟩
theorem alloc_old {w : World} {b : Nat} {o x : Obj} (h : w.heap[b]? = some o) : (w.alloc x).heap[b]? = some o := by
  obtain ⟨h1, h2⟩ := Array.getElem?_eq_some_iff.1 h
  rw [Below.heap_alloc w x b h1]
  exact h
theorem unwrap_any (k : Int) (v : Value) (w : World) : Calls Tryz.prog 109 #[.agg #[.int .i64 k, v]] w fun e w' => e = .returned v ∧ w' = w.alloc (.cells #[.int .i64 k, v] 63) := by
  go_enter Tryz.func109, Tryz.ntmps109
  go_wp2
  go_ret
  exact ⟨rfl, rfl⟩
/-- What is wrapped by a fault is found. -/
theorem is_same (k : Int) (b : Addr) (w : World) :
    Calls Tryz.prog 20 #[.iface 63 (.agg #[.int .i64 k, .iface 148 (.pointer (some b))]), .iface 148 (.pointer (some b))] w fun e w' => e = .returned (.bool true) ∧ w' = w.alloc (.cells #[.int .i64 k, .iface 148 (.pointer (some b))] 63) := by
  obtain ⟨i, hi, hcmp⟩ := Option.map_eq_some_iff.1 isComp
  obtain ⟨j, hj, hjs⟩ := Option.map_eq_some_iff.1 isSize
  have h8 := @run_callFunc_extern Tryz.prog 40 _ Extern.ReflectliteType.typeOf Tryz.func40 (by kernel_rfl) (by kernel_rfl) (by kernel_rfl) (by kernel_rfl)
  obtain ⟨C, h32, cT⟩ := isCmp
  have tT := isTypeOf
  have mR := isMethodComparable
  have nE := noIsE
  have uE := noUnwrapE
  have vE := noUnwrapsE
  have nW := noIsW
  have uW := hasUnwrapW
  have mU := methodUnwrap
  have heq := run_eql_iface_ptr_same (P := Tryz.prog) (w.alloc (.cells #[.int .i64 k, .iface 148 (.pointer (some b))] 63)) b Tryz.underlying36 Tryz.underlying148 hi hcmp hj
  have hty := run_eql_iface_types (P := Tryz.prog) 63 148 (.agg #[.int .i64 k, .iface 148 (.pointer (some b))]) (.pointer (some b)) Tryz.underlying36 (by decide) w
  go_enter Tryz.func20, Tryz.ntmps20
  go_wp2
  refine wp_loop_rounds 2 ?_
  rw [rounds_succ]
  go_wp2_with (go_at_call 109; refine (unwrap_any k _ _).mono ?_; rintro e w' ⟨rfl, rfl⟩)
  rw [rounds_succ]
  go_wp2
  go_ret
  exact ⟨rfl, rfl⟩
/-- Another one is not. -/
theorem is_other (k : Int) (b a : Addr) (ca cb : Array Value) (ta tb : TypeId) (w : World) (hne : a ≠ b) (ha : w.heap[a.block]? = some (.cells ca ta (0, 0))) (hb : w.heap[b.block]? = some (.cells cb tb (0, 0))) :
    Calls Tryz.prog 20 #[.iface 63 (.agg #[.int .i64 k, .iface 148 (.pointer (some a))]), .iface 148 (.pointer (some b))] w fun e w' => e = .returned (.bool false) ∧ w' = w.alloc (.cells #[.int .i64 k, .iface 148 (.pointer (some a))] 63) := by
  obtain ⟨i, hi, hcmp⟩ := Option.map_eq_some_iff.1 isComp
  obtain ⟨j, hj, hjs⟩ := Option.map_eq_some_iff.1 isSize
  have h8 := @run_callFunc_extern Tryz.prog 40 _ Extern.ReflectliteType.typeOf Tryz.func40 (by kernel_rfl) (by kernel_rfl) (by kernel_rfl) (by kernel_rfl)
  obtain ⟨C, h32, cT⟩ := isCmp
  have tT := isTypeOf
  have mR := isMethodComparable
  have nE := noIsE
  have uE := noUnwrapE
  have vE := noUnwrapsE
  have nW := noIsW
  have uW := hasUnwrapW
  have mU := methodUnwrap
  have heq := run_eql_iface_ptr_other (P := Tryz.prog) (w.alloc (.cells #[.int .i64 k, .iface 148 (.pointer (some a))] 63)) Tryz.underlying36 Tryz.underlying148 hi hcmp hj (by rw [hjs]; decide) hne (alloc_old ha) (alloc_old hb)
  have hty := run_eql_iface_types (P := Tryz.prog) 63 148 (.agg #[.int .i64 k, .iface 148 (.pointer (some a))]) (.pointer (some b)) Tryz.underlying36 (by decide) w
  go_enter Tryz.func20, Tryz.ntmps20
  go_wp2
  refine wp_loop_rounds 2 ?_
  rw [rounds_succ]
  go_wp2_with (go_at_call 109; refine (unwrap_any k _ _).mono ?_; rintro e w' ⟨rfl, rfl⟩)
  rw [rounds_succ]
  go_wp2
  go_ret
  exact ⟨rfl, rfl⟩
end Go.Proofs.YtbeionikiiccpaaGreatDoor
