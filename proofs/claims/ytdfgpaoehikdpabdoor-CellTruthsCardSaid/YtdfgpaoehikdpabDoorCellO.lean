/- The program's truths are the document's. -/
import Derived.Test.YtdfgpaoehikdpabDoorCellX
import Derived.Test.YtdfgpaoehikdpabDoorCellU
namespace Go.Proofs.YtdfgpaoehikdpabDoor.Cell
open Go.RowKit Go.Proofs.YtdfgpaoehikdpabDoor.Nums
set_option linter.unusedVariables false
set_option maxRecDepth 100000

theorem three_open (k i : Int) (s : ByteArray) (b : Bool) : (∃ t : Option Bool, openV k i s b = ot t ∧ threeR k b = (match t with | none => 1 | some true => 2 | some false => 0)) ∨ (isT (openV k i s b) = false ∧ threeR k b = -1) := by
  unfold openV threeR
  by_cases h0 : k = 0
  · rw [if_pos h0, if_pos h0]; exact .inl ⟨none, rfl, rfl⟩
  by_cases h3 : k = 3
  · rw [if_neg h0, if_neg h0, if_pos h3, if_pos h3]; refine .inl ⟨some b, rfl, ?_⟩; cases b <;> rfl
  rw [if_neg h0, if_neg h0, if_neg h3, if_neg h3]
  refine .inr ⟨?_, rfl⟩
  by_cases h1 : k = 1
  · rw [if_pos h1]; rfl
  rw [if_neg h1]
  by_cases h2 : k = 2
  · rw [if_pos h2]; rfl
  rw [if_neg h2]; rfl
theorem and_doc (k1 i1 : Int) (s1 : ByteArray) (b1 : Bool) (k2 i2 : Int) (s2 : ByteArray) (b2 : Bool) :
    opRK (threeR k1 b1) (threeR k2 b2) (min (threeR k1 b1) (threeR k2 b2)) = joinK (openV k1 i1 s1 b1) (openV k2 i2 s2 b2) false ∧ opRB (threeR k1 b1) (threeR k2 b2) (min (threeR k1 b1) (threeR k2 b2)) = joinB (openV k1 i1 s1 b1) (openV k2 i2 s2 b2) false ∧ opRE (threeR k1 b1) (threeR k2 b2) = joinE (openV k1 i1 s1 b1) (openV k2 i2 s2 b2) := by
  rcases three_open k1 i1 s1 b1 with ⟨t1, h1, g1⟩ | ⟨h1, g1⟩ <;> rcases three_open k2 i2 s2 b2 with ⟨t2, h2, g2⟩ | ⟨h2, g2⟩
  · rw [h1, g1, h2, g2]; rcases t1 with _ | ⟨_ | _⟩ <;> rcases t2 with _ | ⟨_ | _⟩ <;> exact ⟨rfl, rfl, rfl⟩
  · have e : (isT (openV k1 i1 s1 b1) && isT (openV k2 i2 s2 b2)) = false := by rw [h2, Bool.and_false]
    obtain ⟨c1, c2, c3⟩ := join_no false e
    rw [c1, c2, c3, g2]; unfold opRK opRB opRE
    have h : threeR k1 b1 < 0 ∨ (-1 : Int) < 0 := .inr (by decide)
    rw [if_pos h, if_pos h, if_pos h]; exact ⟨rfl, rfl, rfl⟩
  · have e : (isT (openV k1 i1 s1 b1) && isT (openV k2 i2 s2 b2)) = false := by rw [h1, Bool.false_and]
    obtain ⟨c1, c2, c3⟩ := join_no false e
    rw [c1, c2, c3, g1]; unfold opRK opRB opRE
    have h : (-1 : Int) < 0 ∨ threeR k2 b2 < 0 := .inl (by decide)
    rw [if_pos h, if_pos h, if_pos h]; exact ⟨rfl, rfl, rfl⟩
  · have e : (isT (openV k1 i1 s1 b1) && isT (openV k2 i2 s2 b2)) = false := by rw [h1, Bool.false_and]
    obtain ⟨c1, c2, c3⟩ := join_no false e
    rw [c1, c2, c3, g1]; unfold opRK opRB opRE
    have h : (-1 : Int) < 0 ∨ threeR k2 b2 < 0 := .inl (by decide)
    rw [if_pos h, if_pos h, if_pos h]; exact ⟨rfl, rfl, rfl⟩
theorem or_doc (k1 i1 : Int) (s1 : ByteArray) (b1 : Bool) (k2 i2 : Int) (s2 : ByteArray) (b2 : Bool) :
    opRK (threeR k1 b1) (threeR k2 b2) (max (threeR k1 b1) (threeR k2 b2)) = joinK (openV k1 i1 s1 b1) (openV k2 i2 s2 b2) true ∧ opRB (threeR k1 b1) (threeR k2 b2) (max (threeR k1 b1) (threeR k2 b2)) = joinB (openV k1 i1 s1 b1) (openV k2 i2 s2 b2) true ∧ opRE (threeR k1 b1) (threeR k2 b2) = joinE (openV k1 i1 s1 b1) (openV k2 i2 s2 b2) := by
  rcases three_open k1 i1 s1 b1 with ⟨t1, h1, g1⟩ | ⟨h1, g1⟩ <;> rcases three_open k2 i2 s2 b2 with ⟨t2, h2, g2⟩ | ⟨h2, g2⟩
  · rw [h1, g1, h2, g2]; rcases t1 with _ | ⟨_ | _⟩ <;> rcases t2 with _ | ⟨_ | _⟩ <;> exact ⟨rfl, rfl, rfl⟩
  · have e : (isT (openV k1 i1 s1 b1) && isT (openV k2 i2 s2 b2)) = false := by rw [h2, Bool.and_false]
    obtain ⟨c1, c2, c3⟩ := join_no true e
    rw [c1, c2, c3, g2]; unfold opRK opRB opRE
    have h : threeR k1 b1 < 0 ∨ (-1 : Int) < 0 := .inr (by decide)
    rw [if_pos h, if_pos h, if_pos h]; exact ⟨rfl, rfl, rfl⟩
  · have e : (isT (openV k1 i1 s1 b1) && isT (openV k2 i2 s2 b2)) = false := by rw [h1, Bool.false_and]
    obtain ⟨c1, c2, c3⟩ := join_no true e
    rw [c1, c2, c3, g1]; unfold opRK opRB opRE
    have h : (-1 : Int) < 0 ∨ threeR k2 b2 < 0 := .inl (by decide)
    rw [if_pos h, if_pos h, if_pos h]; exact ⟨rfl, rfl, rfl⟩
  · have e : (isT (openV k1 i1 s1 b1) && isT (openV k2 i2 s2 b2)) = false := by rw [h1, Bool.false_and]
    obtain ⟨c1, c2, c3⟩ := join_no true e
    rw [c1, c2, c3, g1]; unfold opRK opRB opRE
    have h : (-1 : Int) < 0 ∨ threeR k2 b2 < 0 := .inl (by decide)
    rw [if_pos h, if_pos h, if_pos h]; exact ⟨rfl, rfl, rfl⟩
theorem not_doc (k i : Int) (s : ByteArray) (b : Bool) :
    opRK (threeR k b) (threeR k b) (2 - threeR k b) = notK (openV k i s b) ∧ opRB (threeR k b) (threeR k b) (2 - threeR k b) = notB (openV k i s b) ∧ opRE (threeR k b) (threeR k b) = notE (openV k i s b) := by
  rcases three_open k i s b with ⟨t1, h1, g1⟩ | ⟨h1, g1⟩
  · rw [h1, g1]; rcases t1 with _ | ⟨_ | _⟩ <;> exact ⟨rfl, rfl, rfl⟩
  · obtain ⟨c1, c2, c3⟩ := not_no h1
    rw [c1, c2, c3, g1]; exact ⟨rfl, rfl, rfl⟩
end Go.Proofs.YtdfgpaoehikdpabDoor.Cell
