/- The program's comparing is the document's. -/
import Derived.Test.YtdfgpaoehikdpabDoorCellQ
import Derived.Test.YtdfgpaoehikdpabDoorCellS
namespace Go.Proofs.YtdfgpaoehikdpabDoor.Cell
open Go.RowKit Go.Proofs.YtdfgpaoehikdpabDoor.Nums
open Go.Lib (compareBytes)
set_option linter.unusedVariables false
set_option maxRecDepth 100000

theorem cmp_doc {k1 i1 : Int} {s1 : ByteArray} {b1 : Bool} {k2 i2 : Int} {s2 : ByteArray} {b2 : Bool} (h1 : RightV k1 i1 s1 b1) (h2 : RightV k2 i2 s2 b2) :
    cmpRN k1 i1 s1 b1 k2 i2 s2 b2 = cmpO (openV k1 i1 s1 b1) (openV k2 i2 s2 b2) ∧ cmpRK k1 k2 = cmpK (openV k1 i1 s1 b1) (openV k2 i2 s2 b2) ∧ cmpRE k1 k2 = cmpE (openV k1 i1 s1 b1) (openV k2 i2 s2 b2) := by
  have r := rank_doc h1 h2
  have n1 := (kind_of h1).1
  have n2 := (kind_of h2).1
  unfold cmpRN cmpRK cmpRE cmpO cmpK cmpE
  rw [n1, n2, less_doc h1 h2, less_doc h2 h1, order_flip (openV k1 i1 s1 b1) (openV k2 i2 s2 b2)]
  by_cases e1 : k1 = 0
  · have o : k1 = 0 ∨ k2 = 0 := .inl e1
    rw [if_pos o, if_pos o, if_pos o, decide_eq_true e1]; exact ⟨rfl, rfl, rfl⟩
  by_cases e2 : k2 = 0
  · have o : k1 = 0 ∨ k2 = 0 := .inr e2
    rw [if_pos o, if_pos o, if_pos o, decide_eq_true e2, Bool.or_true]; exact ⟨rfl, rfl, rfl⟩
  have o : ¬ (k1 = 0 ∨ k2 = 0) := fun h => h.elim e1 e2
  rw [if_neg o, if_neg o, if_neg o, decide_eq_false e1, decide_eq_false e2]
  by_cases e : k1 = k2
  · have e' := r.mpr e
    rw [if_pos e, if_pos e, if_pos e', if_pos e', decide_eq_true e, decide_eq_true e']
    refine ⟨?_, rfl, rfl⟩
    rcases order_range (openV k1 i1 s1 b1) (openV k2 i2 s2 b2) with g | g | g <;> rw [g] <;> rfl
  · have e' : ¬ rankO (openV k1 i1 s1 b1) = rankO (openV k2 i2 s2 b2) := fun h => e (r.mp h)
    rw [if_neg e, if_neg e, if_neg e', if_neg e', decide_eq_false e, decide_eq_false e']
    exact ⟨rfl, rfl, rfl⟩
end Go.Proofs.YtdfgpaoehikdpabDoor.Cell
