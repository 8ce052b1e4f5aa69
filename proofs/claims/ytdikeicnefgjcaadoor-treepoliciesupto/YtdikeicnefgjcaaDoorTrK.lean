/- Package tree: what a node is: the type assertions. -/
import Derived.Test.YtdikeicnefgjcaaDoorTrM
namespace Go.Proofs.YtdikeicnefgjcaaDoor
open Go.RowKit

abbrev leafC : Array Value := #[.int .i64 0, .string ⟨#[]⟩, .int .i64 0, .int .i64 0]
abbrev leafZ : Value := .agg #[.int .i64 0, .string ⟨#[]⟩, .int .i64 0, .int .i64 0]
abbrev singleC : Array Value := #[.int .i64 0, .string ⟨#[]⟩, .int .i64 0, .int .i64 0, .int .i64 0, .string ⟨#[]⟩, .int .i64 0, .int .i64 0, .int .i64 0, .slice none 0 0]
abbrev singleZ : Value := .agg #[.int .i64 0, .string ⟨#[]⟩, .int .i64 0, .int .i64 0, .int .i64 0, .string ⟨#[]⟩, .int .i64 0, .int .i64 0, .int .i64 0, .slice none 0 0]
abbrev doubleC : Array Value := #[.int .i64 0, .string ⟨#[]⟩, .int .i64 0, .int .i64 0, .int .i64 0, .string ⟨#[]⟩, .int .i64 0, .int .i64 0, .int .i64 0, .slice none 0 0, .int .i64 0, .string ⟨#[]⟩, .int .i64 0, .int .i64 0, .int .i64 0, .slice none 0 0]
abbrev doubleZ : Value := .agg #[.int .i64 0, .string ⟨#[]⟩, .int .i64 0, .int .i64 0, .int .i64 0, .string ⟨#[]⟩, .int .i64 0, .int .i64 0, .int .i64 0, .slice none 0 0, .int .i64 0, .string ⟨#[]⟩, .int .i64 0, .int .i64 0, .int .i64 0, .slice none 0 0]
abbrev tripleC : Array Value := #[.int .i64 0, .string ⟨#[]⟩, .int .i64 0, .int .i64 0, .int .i64 0, .string ⟨#[]⟩, .int .i64 0, .int .i64 0, .int .i64 0, .slice none 0 0, .int .i64 0, .string ⟨#[]⟩, .int .i64 0, .int .i64 0, .int .i64 0, .slice none 0 0, .int .i64 0, .string ⟨#[]⟩, .int .i64 0, .int .i64 0, .int .i64 0, .slice none 0 0]
abbrev tripleZ : Value := .agg #[.int .i64 0, .string ⟨#[]⟩, .int .i64 0, .int .i64 0, .int .i64 0, .string ⟨#[]⟩, .int .i64 0, .int .i64 0, .int .i64 0, .slice none 0 0, .int .i64 0, .string ⟨#[]⟩, .int .i64 0, .int .i64 0, .int .i64 0, .slice none 0 0, .int .i64 0, .string ⟨#[]⟩, .int .i64 0, .int .i64 0, .int .i64 0, .slice none 0 0]
abbrev manyC : Array Value := #[.int .i64 0, .string ⟨#[]⟩, .int .i64 0, .int .i64 0, .int .i64 0, .string ⟨#[]⟩, .int .i64 0, .int .i64 0, .int .i64 0, .slice none 0 0, .slice none 0 0, .int .i64 0, .string ⟨#[]⟩, .int .i64 0, .int .i64 0, .int .i64 0, .slice none 0 0]
abbrev manyZ : Value := .agg #[.int .i64 0, .string ⟨#[]⟩, .int .i64 0, .int .i64 0, .int .i64 0, .string ⟨#[]⟩, .int .i64 0, .int .i64 0, .int .i64 0, .slice none 0 0, .slice none 0 0, .int .i64 0, .string ⟨#[]⟩, .int .i64 0, .int .i64 0, .int .i64 0, .slice none 0 0]
theorem is_leaf (v : Value) (w : World) : (Instr.typeAssert (.iface 69 v) 50 69 true).run Tryd.prog w = .ok (.tuple #[v, .bool true]) w := by kernel_rfl
theorem must_leaf (v : Value) (w : World) : (Instr.typeAssert (.iface 69 v) 50 69 false).run Tryd.prog w = .ok v w := by kernel_rfl
theorem is_single (v : Value) (w : World) : (Instr.typeAssert (.iface 78 v) 50 78 true).run Tryd.prog w = .ok (.tuple #[v, .bool true]) w := by kernel_rfl
theorem must_single (v : Value) (w : World) : (Instr.typeAssert (.iface 78 v) 50 78 false).run Tryd.prog w = .ok v w := by kernel_rfl
theorem is_double (v : Value) (w : World) : (Instr.typeAssert (.iface 81 v) 50 81 true).run Tryd.prog w = .ok (.tuple #[v, .bool true]) w := by kernel_rfl
theorem must_double (v : Value) (w : World) : (Instr.typeAssert (.iface 81 v) 50 81 false).run Tryd.prog w = .ok v w := by kernel_rfl
theorem is_triple (v : Value) (w : World) : (Instr.typeAssert (.iface 83 v) 50 83 true).run Tryd.prog w = .ok (.tuple #[v, .bool true]) w := by kernel_rfl
theorem must_triple (v : Value) (w : World) : (Instr.typeAssert (.iface 83 v) 50 83 false).run Tryd.prog w = .ok v w := by kernel_rfl
theorem is_many (v : Value) (w : World) : (Instr.typeAssert (.iface 85 v) 50 85 true).run Tryd.prog w = .ok (.tuple #[v, .bool true]) w := by kernel_rfl
theorem must_many (v : Value) (w : World) : (Instr.typeAssert (.iface 85 v) 50 85 false).run Tryd.prog w = .ok v w := by kernel_rfl
theorem single_no_leaf (v : Value) (w : World) : (Instr.typeAssert (.iface 78 v) 50 69 true).run Tryd.prog w = .ok (.tuple #[leafZ, .bool false]) w := by kernel_rfl
theorem double_no_leaf (v : Value) (w : World) : (Instr.typeAssert (.iface 81 v) 50 69 true).run Tryd.prog w = .ok (.tuple #[leafZ, .bool false]) w := by kernel_rfl
theorem triple_no_leaf (v : Value) (w : World) : (Instr.typeAssert (.iface 83 v) 50 69 true).run Tryd.prog w = .ok (.tuple #[leafZ, .bool false]) w := by kernel_rfl
theorem many_no_leaf (v : Value) (w : World) : (Instr.typeAssert (.iface 85 v) 50 69 true).run Tryd.prog w = .ok (.tuple #[leafZ, .bool false]) w := by kernel_rfl
theorem leaf_no_single (v : Value) (w : World) : (Instr.typeAssert (.iface 69 v) 50 78 true).run Tryd.prog w = .ok (.tuple #[singleZ, .bool false]) w := by kernel_rfl
theorem double_no_single (v : Value) (w : World) : (Instr.typeAssert (.iface 81 v) 50 78 true).run Tryd.prog w = .ok (.tuple #[singleZ, .bool false]) w := by kernel_rfl
theorem triple_no_single (v : Value) (w : World) : (Instr.typeAssert (.iface 83 v) 50 78 true).run Tryd.prog w = .ok (.tuple #[singleZ, .bool false]) w := by kernel_rfl
theorem many_no_single (v : Value) (w : World) : (Instr.typeAssert (.iface 85 v) 50 78 true).run Tryd.prog w = .ok (.tuple #[singleZ, .bool false]) w := by kernel_rfl
theorem leaf_no_double (v : Value) (w : World) : (Instr.typeAssert (.iface 69 v) 50 81 true).run Tryd.prog w = .ok (.tuple #[doubleZ, .bool false]) w := by kernel_rfl
theorem single_no_double (v : Value) (w : World) : (Instr.typeAssert (.iface 78 v) 50 81 true).run Tryd.prog w = .ok (.tuple #[doubleZ, .bool false]) w := by kernel_rfl
theorem triple_no_double (v : Value) (w : World) : (Instr.typeAssert (.iface 83 v) 50 81 true).run Tryd.prog w = .ok (.tuple #[doubleZ, .bool false]) w := by kernel_rfl
theorem many_no_double (v : Value) (w : World) : (Instr.typeAssert (.iface 85 v) 50 81 true).run Tryd.prog w = .ok (.tuple #[doubleZ, .bool false]) w := by kernel_rfl
theorem leaf_no_triple (v : Value) (w : World) : (Instr.typeAssert (.iface 69 v) 50 83 true).run Tryd.prog w = .ok (.tuple #[tripleZ, .bool false]) w := by kernel_rfl
theorem single_no_triple (v : Value) (w : World) : (Instr.typeAssert (.iface 78 v) 50 83 true).run Tryd.prog w = .ok (.tuple #[tripleZ, .bool false]) w := by kernel_rfl
theorem double_no_triple (v : Value) (w : World) : (Instr.typeAssert (.iface 81 v) 50 83 true).run Tryd.prog w = .ok (.tuple #[tripleZ, .bool false]) w := by kernel_rfl
theorem many_no_triple (v : Value) (w : World) : (Instr.typeAssert (.iface 85 v) 50 83 true).run Tryd.prog w = .ok (.tuple #[tripleZ, .bool false]) w := by kernel_rfl
theorem leaf_no_many (v : Value) (w : World) : (Instr.typeAssert (.iface 69 v) 50 85 true).run Tryd.prog w = .ok (.tuple #[manyZ, .bool false]) w := by kernel_rfl
theorem single_no_many (v : Value) (w : World) : (Instr.typeAssert (.iface 78 v) 50 85 true).run Tryd.prog w = .ok (.tuple #[manyZ, .bool false]) w := by kernel_rfl
theorem double_no_many (v : Value) (w : World) : (Instr.typeAssert (.iface 81 v) 50 85 true).run Tryd.prog w = .ok (.tuple #[manyZ, .bool false]) w := by kernel_rfl
theorem triple_no_many (v : Value) (w : World) : (Instr.typeAssert (.iface 83 v) 50 85 true).run Tryd.prog w = .ok (.tuple #[manyZ, .bool false]) w := by kernel_rfl
end Go.Proofs.YtdikeicnefgjcaaDoor
