/- A slice of bytes among the arguments: opened. -/
import Derived.Test.YtbpgjpopmohbmaaPageOpen
namespace Go.Proofs.Ytbpgjpopmohbmaa.Mem
open Go.RowKit Go.Proofs.Ytbpgjpopmohbmaa.Nums Go.ChangeShapes Go.WideShapes Go.Deep Go.Joins
set_option linter.unusedVariables false
set_option linter.unusedSimpArgs false
set_option maxRecDepth 100000
section
variable {H : Type} {enc : TypeId × Value → H} {w : World} {base : Nat} {spare : Nat → Bool} {held : Bool}
theorem open_bytes {r : Reach} {b0 : Nat} {v : Value} {d : DataW H} {p : List MemPlace} (hval : Value.okWide Try.prog w r b0 31 v) (h : DataW.Trod enc Try.prog w base spare held 31 v d p) :
    ∃ A n c x, v = .slice A n c ∧ x.length = n ∧ Sl w w.heap.size 1 A n c (u8s x) := by
  obtain ⟨a0, n0, c0, rfl⟩ := okWide_slice Try.underlying31 hval
  obtain ⟨fuel, hf⟩ := h
  obtain ⟨A, m, c, x, hcs, hl, hs⟩ := bytes_of hf
  have : (Value.slice a0 n0 c0) = .slice A m c := by simpa [Value.cells] using hcs
  rw [this]
  exact ⟨A, m, c, x, rfl, hl, hs⟩
end
end Go.Proofs.Ytbpgjpopmohbmaa.Mem
