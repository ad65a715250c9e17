/- The program's order is the document's. -/
import Derived.Test.YtdfgpaoehikdpacDoorCellP
import Derived.Test.YtdfgpaoehikdpacDoorCellS
namespace Go.Proofs.YtdfgpaoehikdpacDoor.Cell
open Go.RowKit Go.Proofs.YtdfgpaoehikdpacDoor.Nums
open Go.Lib (compareBytes)
set_option linter.unusedVariables false
set_option maxRecDepth 100000

theorem less_doc {k1 i1 : Int} {s1 : ByteArray} {b1 : Bool} {k2 i2 : Int} {s2 : ByteArray} {b2 : Bool} (h1 : RightV k1 i1 s1 b1) (h2 : RightV k2 i2 s2 b2) :
    lessR k1 i1 s1 b1 k2 i2 s2 b2 = decide (orderO (openV k1 i1 s1 b1) (openV k2 i2 s2 b2) < 0) := by
  rcases h1 with ⟨rfl, rfl, rfl, rfl⟩ | ⟨rfl, rfl, rfl⟩ | ⟨rfl, rfl, rfl, g1⟩ | ⟨rfl, rfl, rfl⟩ <;> rcases h2 with ⟨rfl, rfl, rfl, rfl⟩ | ⟨rfl, rfl, rfl⟩ | ⟨rfl, rfl, rfl, g2⟩ | ⟨rfl, rfl, rfl⟩
  all_goals first
    | rfl
    | (cases b1 <;> cases b2 <;> rfl)
    | (cases b1 <;> rfl)
    | (cases b2 <;> rfl)
    | (show decide (i1 < i2) = decide (cmpI i1 i2 < 0); exact decide_eq_decide.mpr (ci_lt _ _).symm)
    | (show Go.Op.bytesLess s1.toList s2.toList = decide (compareBytes s1.data.toList s2.data.toList < 0); rw [ByteArray.toList_eq, ByteArray.toList_eq]; exact cb_less _ _)
theorem same_doc {k1 i1 : Int} {s1 : ByteArray} {b1 : Bool} {k2 i2 : Int} {s2 : ByteArray} {b2 : Bool} (h1 : RightV k1 i1 s1 b1) (h2 : RightV k2 i2 s2 b2) :
    sameR k1 i1 s1 b1 k2 i2 s2 b2 = (orderO (openV k1 i1 s1 b1) (openV k2 i2 s2 b2) == 0) := by
  unfold sameR
  rw [less_doc h1 h2, less_doc h2 h1, order_flip (openV k1 i1 s1 b1) (openV k2 i2 s2 b2)]
  rcases order_range (openV k1 i1 s1 b1) (openV k2 i2 s2 b2) with e | e | e <;> rw [e] <;> rfl
theorem kind_of {k i : Int} {s : ByteArray} {b : Bool} (h : RightV k i s b) : isNil (openV k i s b) = decide (k = 0) ∧ rankO (openV k i s b) = (if k = 0 then 0 else if k = 3 then 1 else if k = 1 then 2 else 3) ∧ (k = 0 ∨ k = 1 ∨ k = 2 ∨ k = 3) := by
  rcases h with ⟨rfl, _⟩ | ⟨rfl, _⟩ | ⟨rfl, _⟩ | ⟨rfl, _⟩
  · exact ⟨rfl, rfl, .inl rfl⟩
  · exact ⟨rfl, rfl, .inr (.inl rfl)⟩
  · exact ⟨rfl, rfl, .inr (.inr (.inl rfl))⟩
  · exact ⟨rfl, rfl, .inr (.inr (.inr rfl))⟩
theorem rank_doc {k1 i1 : Int} {s1 : ByteArray} {b1 : Bool} {k2 i2 : Int} {s2 : ByteArray} {b2 : Bool} (h1 : RightV k1 i1 s1 b1) (h2 : RightV k2 i2 s2 b2) :
    rankO (openV k1 i1 s1 b1) = rankO (openV k2 i2 s2 b2) ↔ k1 = k2 := by
  obtain ⟨_, r1, c1⟩ := kind_of h1
  obtain ⟨_, r2, c2⟩ := kind_of h2
  rw [r1, r2]
  rcases c1 with rfl | rfl | rfl | rfl <;> rcases c2 with rfl | rfl | rfl | rfl <;> decide
end Go.Proofs.YtdfgpaoehikdpacDoor.Cell
