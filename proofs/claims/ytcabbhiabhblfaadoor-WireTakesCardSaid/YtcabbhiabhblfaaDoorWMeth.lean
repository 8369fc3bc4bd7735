/- Which functions the methods of the types that errors.As and errors.Is meet are: closed facts. (232: as many types as the program has, and 100.) -/
import Derived.Test.YtcabbhiabhblfaaDoorProg
import Derived.WalkKit
import Derived.Stop.Asserts
namespace Go.Proofs.YtcabbhiabhblfaaDoor
open Go
namespace Wp
theorem mKind (h : Value) (w : World) : (Go.method 232 86 (.agg #[h]) "Kind").run Tryd.prog w = .ok (67, h) w := by kernel_rfl
theorem mElem (h : Value) (w : World) : (Go.method 232 86 (.agg #[h]) "Elem").run Tryd.prog w = .ok (79, .agg #[h]) w := by kernel_rfl
theorem mImplements (h : Value) (w : World) : (Go.method 232 86 (.agg #[h]) "Implements").run Tryd.prog w = .ok (80, .agg #[h]) w := by kernel_rfl
theorem mAssignableTo (h : Value) (w : World) : (Go.method 232 86 (.agg #[h]) "AssignableTo").run Tryd.prog w = .ok (77, .agg #[h]) w := by kernel_rfl
theorem mComparable (h : Value) (w : World) : (Go.method 232 86 (.agg #[h]) "Comparable").run Tryd.prog w = .ok (78, .agg #[h]) w := by kernel_rfl
theorem mUnwrap (x y : Value) (w : World) : (Go.method 232 53 (.agg #[x, y]) "Unwrap").run Tryd.prog w = .ok (71, .agg #[x, y]) w := by kernel_rfl
end Wp
end Go.Proofs.YtcabbhiabhblfaaDoor
