import Derived.Test.YtfaahjbkdlkmjaaDoorJcc
/- Jot: which type a value is of. -/
namespace Go.Proofs.YtfaahjbkdlkmjaaDoor
open Go Go.RowKit Go.Lib
theorem ta_64_64 (v : Value) (W : World) : (Instr.typeAssert (.iface 64 v) 57 64 true).run Tryd.prog W = .ok (.tuple #[v, .bool true]) W := by kernel_rfl
theorem ta_64_66 (v : Value) (W : World) : (Instr.typeAssert (.iface 64 v) 57 66 true).run Tryd.prog W = .ok (.tuple #[.bool false, .bool false]) W := by kernel_rfl
theorem ta_64_68 (v : Value) (W : World) : (Instr.typeAssert (.iface 64 v) 57 68 true).run Tryd.prog W = .ok (.tuple #[I 0, .bool false]) W := by kernel_rfl
theorem ta_64_70 (v : Value) (W : World) : (Instr.typeAssert (.iface 64 v) 57 70 true).run Tryd.prog W = .ok (.tuple #[S [], .bool false]) W := by kernel_rfl
theorem ta_64_59 (v : Value) (W : World) : (Instr.typeAssert (.iface 64 v) 57 59 true).run Tryd.prog W = .ok (.tuple #[.slice none 0 0, .bool false]) W := by kernel_rfl
theorem ta_64_61 (v : Value) (W : World) : (Instr.typeAssert (.iface 64 v) 57 61 true).run Tryd.prog W = .ok (.tuple #[.agg #[.slice none 0 0, .slice none 0 0], .bool false]) W := by kernel_rfl
theorem ta_66_64 (v : Value) (W : World) : (Instr.typeAssert (.iface 66 v) 57 64 true).run Tryd.prog W = .ok (.tuple #[.agg #[], .bool false]) W := by kernel_rfl
theorem ta_66_66 (v : Value) (W : World) : (Instr.typeAssert (.iface 66 v) 57 66 true).run Tryd.prog W = .ok (.tuple #[v, .bool true]) W := by kernel_rfl
theorem ta_66_68 (v : Value) (W : World) : (Instr.typeAssert (.iface 66 v) 57 68 true).run Tryd.prog W = .ok (.tuple #[I 0, .bool false]) W := by kernel_rfl
theorem ta_66_70 (v : Value) (W : World) : (Instr.typeAssert (.iface 66 v) 57 70 true).run Tryd.prog W = .ok (.tuple #[S [], .bool false]) W := by kernel_rfl
theorem ta_66_59 (v : Value) (W : World) : (Instr.typeAssert (.iface 66 v) 57 59 true).run Tryd.prog W = .ok (.tuple #[.slice none 0 0, .bool false]) W := by kernel_rfl
theorem ta_66_61 (v : Value) (W : World) : (Instr.typeAssert (.iface 66 v) 57 61 true).run Tryd.prog W = .ok (.tuple #[.agg #[.slice none 0 0, .slice none 0 0], .bool false]) W := by kernel_rfl
theorem ta_68_64 (v : Value) (W : World) : (Instr.typeAssert (.iface 68 v) 57 64 true).run Tryd.prog W = .ok (.tuple #[.agg #[], .bool false]) W := by kernel_rfl
theorem ta_68_66 (v : Value) (W : World) : (Instr.typeAssert (.iface 68 v) 57 66 true).run Tryd.prog W = .ok (.tuple #[.bool false, .bool false]) W := by kernel_rfl
theorem ta_68_68 (v : Value) (W : World) : (Instr.typeAssert (.iface 68 v) 57 68 true).run Tryd.prog W = .ok (.tuple #[v, .bool true]) W := by kernel_rfl
theorem ta_68_70 (v : Value) (W : World) : (Instr.typeAssert (.iface 68 v) 57 70 true).run Tryd.prog W = .ok (.tuple #[S [], .bool false]) W := by kernel_rfl
theorem ta_68_59 (v : Value) (W : World) : (Instr.typeAssert (.iface 68 v) 57 59 true).run Tryd.prog W = .ok (.tuple #[.slice none 0 0, .bool false]) W := by kernel_rfl
theorem ta_68_61 (v : Value) (W : World) : (Instr.typeAssert (.iface 68 v) 57 61 true).run Tryd.prog W = .ok (.tuple #[.agg #[.slice none 0 0, .slice none 0 0], .bool false]) W := by kernel_rfl
theorem ta_70_64 (v : Value) (W : World) : (Instr.typeAssert (.iface 70 v) 57 64 true).run Tryd.prog W = .ok (.tuple #[.agg #[], .bool false]) W := by kernel_rfl
theorem ta_70_66 (v : Value) (W : World) : (Instr.typeAssert (.iface 70 v) 57 66 true).run Tryd.prog W = .ok (.tuple #[.bool false, .bool false]) W := by kernel_rfl
theorem ta_70_68 (v : Value) (W : World) : (Instr.typeAssert (.iface 70 v) 57 68 true).run Tryd.prog W = .ok (.tuple #[I 0, .bool false]) W := by kernel_rfl
theorem ta_70_70 (v : Value) (W : World) : (Instr.typeAssert (.iface 70 v) 57 70 true).run Tryd.prog W = .ok (.tuple #[v, .bool true]) W := by kernel_rfl
theorem ta_70_59 (v : Value) (W : World) : (Instr.typeAssert (.iface 70 v) 57 59 true).run Tryd.prog W = .ok (.tuple #[.slice none 0 0, .bool false]) W := by kernel_rfl
theorem ta_70_61 (v : Value) (W : World) : (Instr.typeAssert (.iface 70 v) 57 61 true).run Tryd.prog W = .ok (.tuple #[.agg #[.slice none 0 0, .slice none 0 0], .bool false]) W := by kernel_rfl
theorem ta_59_64 (v : Value) (W : World) : (Instr.typeAssert (.iface 59 v) 57 64 true).run Tryd.prog W = .ok (.tuple #[.agg #[], .bool false]) W := by kernel_rfl
theorem ta_59_66 (v : Value) (W : World) : (Instr.typeAssert (.iface 59 v) 57 66 true).run Tryd.prog W = .ok (.tuple #[.bool false, .bool false]) W := by kernel_rfl
theorem ta_59_68 (v : Value) (W : World) : (Instr.typeAssert (.iface 59 v) 57 68 true).run Tryd.prog W = .ok (.tuple #[I 0, .bool false]) W := by kernel_rfl
theorem ta_59_70 (v : Value) (W : World) : (Instr.typeAssert (.iface 59 v) 57 70 true).run Tryd.prog W = .ok (.tuple #[S [], .bool false]) W := by kernel_rfl
theorem ta_59_59 (v : Value) (W : World) : (Instr.typeAssert (.iface 59 v) 57 59 true).run Tryd.prog W = .ok (.tuple #[v, .bool true]) W := by kernel_rfl
theorem ta_59_61 (v : Value) (W : World) : (Instr.typeAssert (.iface 59 v) 57 61 true).run Tryd.prog W = .ok (.tuple #[.agg #[.slice none 0 0, .slice none 0 0], .bool false]) W := by kernel_rfl
theorem ta_61_64 (v : Value) (W : World) : (Instr.typeAssert (.iface 61 v) 57 64 true).run Tryd.prog W = .ok (.tuple #[.agg #[], .bool false]) W := by kernel_rfl
theorem ta_61_66 (v : Value) (W : World) : (Instr.typeAssert (.iface 61 v) 57 66 true).run Tryd.prog W = .ok (.tuple #[.bool false, .bool false]) W := by kernel_rfl
theorem ta_61_68 (v : Value) (W : World) : (Instr.typeAssert (.iface 61 v) 57 68 true).run Tryd.prog W = .ok (.tuple #[I 0, .bool false]) W := by kernel_rfl
theorem ta_61_70 (v : Value) (W : World) : (Instr.typeAssert (.iface 61 v) 57 70 true).run Tryd.prog W = .ok (.tuple #[S [], .bool false]) W := by kernel_rfl
theorem ta_61_59 (v : Value) (W : World) : (Instr.typeAssert (.iface 61 v) 57 59 true).run Tryd.prog W = .ok (.tuple #[.slice none 0 0, .bool false]) W := by kernel_rfl
theorem ta_61_61 (v : Value) (W : World) : (Instr.typeAssert (.iface 61 v) 57 61 true).run Tryd.prog W = .ok (.tuple #[v, .bool true]) W := by kernel_rfl
theorem ta_39 (v : Value) (W : World) : (Instr.typeAssert (.iface 39 v) 20 39 false).run Tryd.prog W = .ok v W := by kernel_rfl
end Go.Proofs.YtfaahjbkdlkmjaaDoor
