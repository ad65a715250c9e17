/- Picked by program out of XCellB. -/
import Derived.Test.YtfabcnbblhadnaaDoorCell
import Derived.Test.YtfabcnbblhadnaaDoorCell
namespace Go.Proofs.YtfabcnbblhadnaaDoor.Cell
open Go.RowKit Go.Proofs.YtfabcnbblhadnaaDoor.Nums
set_option linter.unusedVariables false
set_option maxRecDepth 100000
theorem guard_nil (o : OV) (t : Tmp) (w : World) : (eqGuard .eql 20 (.tmp t) (.const .nilIface) o.val .nilIface).run Tryd.prog w = .ok () w := by
  cases o <;> unfold OV.val <;> kernel_rfl
attribute [local go_sem] guard_nil
end Go.Proofs.YtfabcnbblhadnaaDoor.Cell
