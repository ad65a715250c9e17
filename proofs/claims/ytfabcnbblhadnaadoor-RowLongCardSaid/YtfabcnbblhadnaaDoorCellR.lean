/- Picked by program out of XCellR. -/
import Derived.Test.YtfabcnbblhadnaaDoorCellT
import Derived.Test.YtfabcnbblhadnaaDoorCellT
namespace Go.Proofs.YtfabcnbblhadnaaDoor.Cell
open Go.RowKit Go.Proofs.YtfabcnbblhadnaaDoor.Nums
set_option linter.unusedVariables false
set_option maxRecDepth 100000
/-- a value in a block of its own -/
structure Box (w : World) (x : Nat) (k i : Int) (s : ByteArray) (b : Bool) : Prop where
  c0 : w.cell? ⟨x, 0, none⟩ = some (.int .u8 k)
  c1 : w.cell? ⟨x, 1, none⟩ = some (.int .i64 i)
  c2 : w.cell? ⟨x, 2, none⟩ = some (.string s)
  c3 : w.cell? ⟨x, 3, none⟩ = some (.bool b)
  lt : x < w.heap.size
theorem Box.below {w w' : World} {x : Nat} {k i : Int} {s : ByteArray} {b : Bool} (h : Box w x k i s b) (hb : Below w.heap.size w w') : Box w' x k i s b :=
  ⟨(hb.cell h.lt).trans h.c0, (hb.cell h.lt).trans h.c1, (hb.cell h.lt).trans h.c2, (hb.cell h.lt).trans h.c3, Nat.lt_of_lt_of_le h.lt hb.size⟩
theorem box_new (w : World) (k i : Int) (s : ByteArray) (b : Bool) : Box (w.alloc (.cells #[.int .u8 k, .int .i64 i, .string s, .bool b] 43)) w.heap.size k i s b :=
  ⟨cell_one _ _ _ 0, cell_one _ _ _ 1, cell_one _ _ _ 2, cell_one _ _ _ 3, by rw [size_alloc]; omega⟩
end Go.Proofs.YtfabcnbblhadnaaDoor.Cell
