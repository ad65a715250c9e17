/- A right value's literal is the document's; CellLiterals. -/
import Derived.Test.YtdfgpaoehikdpabDoorCellM
namespace Go.Proofs.YtdfgpaoehikdpabDoor.Cell
open Go.RowKit Go.Proofs.YtdfgpaoehikdpabDoor.Nums
set_option linter.unusedVariables false
set_option maxRecDepth 100000

def litV (k i : Int) (s : ByteArray) (b : Bool) : ByteArray := if k = 0 then sz [78, 85, 76, 76] else if k = 1 then sz (Go.Lib.itoa i) else if k = 2 then sz (litT s) else if b then sz [84, 82, 85, 69] else sz [70, 65, 76, 83, 69]
theorem lit_any {k i : Int} {s : ByteArray} {b : Bool} (h : RightV k i s b) (hi : In64 i) (w : World) (hT : Tabs w) :
    Calls Tryd.prog 24 #[.agg #[.int .u8 k, .int .i64 i, .string s, .bool b]] w fun e w' => e = .returned (.string (litV k i s b)) ∧ Below w.heap.size w w' := by
  rcases h with ⟨rfl, rfl, rfl, rfl⟩ | ⟨rfl, rfl, rfl⟩ | ⟨rfl, rfl, rfl, hs⟩ | ⟨rfl, rfl, rfl⟩
  · exact lit_nil _ _ _ w hT
  · exact lit_int _ _ _ hi w hT
  · exact lit_text _ _ _ hs (lit_bounds s hs).1 (lit_bounds s hs).2 w hT
  · cases b
    · exact lit_false _ _ w hT
    · exact lit_true _ _ w hT
theorem rlit_any {k i : Int} {s : ByteArray} {b : Bool} (h : RightV k i s b) (hi : In64 i) (w : World) :
    Calls Tryd.prog 25 #[.agg #[.int .u8 k, .int .i64 i, .string s, .bool b]] w fun e w' => e = .returned (.string (litV k i s b)) ∧ Below w.heap.size w w' := by
  rcases h with ⟨rfl, rfl, rfl, rfl⟩ | ⟨rfl, rfl, rfl⟩ | ⟨rfl, rfl, rfl, hs⟩ | ⟨rfl, rfl, rfl⟩
  · exact rlit_nil _ _ _ w
  · exact rlit_int _ _ _ hi w
  · exact rlit_text _ _ _ hs w
  · cases b
    · exact rlit_false _ _ w
    · exact rlit_true _ _ w
end Go.Proofs.YtdfgpaoehikdpabDoor.Cell
