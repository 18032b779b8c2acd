/- The contracts of Weight of hold and of the specification of layer 2. Their condition: the hold's tables lie in memory. -/
import Derived.Test.YtekkiedlajhaiaaGreatR25
import Derived.Test.YtekkiedlajhaiaaGreatR24
set_option linter.unusedVariables false
set_option linter.unusedSimpArgs false
set_option linter.constructorNameAsVariable false
namespace Go.Proofs.YtekkiedlajhaiaaGreat

section
open Go.RowKit

theorem fieldM3 (b0 b1 b2 b3 b4 b5 b6 b7 : Value) (w : World) : (Instr.field 101 (.agg #[b0, b1, b2, b3, b4, b5, b6, b7]) 3).run Tryz.prog w = .ok b3 w := by kernel_rfl
attribute [local go_sem ↓] fieldM3
abbrev wt (m0 m1 a0 a1 z0 z1 e : Int) : Value := .tuple #[.agg #[.int .i64 m0, .int .i64 m1, .int .i64 a0, .int .i64 a1, .int .i64 z0, .int .i64 z1], .int .i64 e]
end

end Go.Proofs.YtekkiedlajhaiaaGreat
