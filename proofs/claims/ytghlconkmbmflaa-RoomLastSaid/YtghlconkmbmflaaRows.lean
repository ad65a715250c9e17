/-
  No cell of these rows narrows 'for every input' (looked for: loops, veiled, ifaces, maps, wideKeys, modest, calm, conditions, laid).
  DERIVED. THE GIVEN ROWS OF THIS SEAT. 4 by the template 'for every input the law returns true; each argument reads behind the call as it read before'; 0 by the template 'total and deterministic' (their statements: YtghlconkmbmflaaTotals.lean).
  GIVEN WITH THE SEED: the statements are not yours to turn. If you find one false, say at which input.
  Laid BY PROGRAM, IN A SANDBOX (cutbox-rows.mjs): the forced cells as the released guide's own fill.sh prints them over the translation a9f7478228c3e1e8… (all of the seat's roots in one cut). By AI agents, Wed Nov 11 2026. No macro, syntax, notation, axiom, sorry.
-/
import Derived.Test.YtghlconkmbmflaaChecked
import GoSem.Claim
import GoSem.ClaimJoined
import GoSem.ClaimMapViews
import Derived.JoinedTies
import Derived.KernelRfl
namespace Go.Proofs.Ytghlconkmbmflaa
/- THE CELL 'sum', in the pinned program and in every row, IS THE sha256 OF THE DUMP (.gsa) THAT YtghlconkmbmflaaProg.lean LOADS. Nothing in Lean hashes anything: it is a label: what it is worth is what the hold of that sum in a sandbox is worth. -/
noncomputable def Try.pinned : Pinned := { name := "ytghlconkmbmflaa", sum := "a9f7478228c3e1e8964f33ffa0c93a9063ac128eab39d9210ab7c84ae5aea974", checked := Try.checked }
namespace Rows
def none {H : Type} : Left H := { results := [], args := [] }

/-- 'lapidarylaw06.RoomPlays': WHATEVER THE INPUT: true; the input reads as it did. -/
def roomPlaysSpec : ChangeSpec := { name := "roomPlays", fn := fun _ => fun
  | [d1, d2] => { results := [.lit (.bool true)], args := [d1, d2] }
  | _ => none }
def roomPlaysRow : OpenClaim := { program := "ytghlconkmbmflaa", sum := "a9f7478228c3e1e8964f33ffa0c93a9063ac128eab39d9210ab7c84ae5aea974", func := "lapidary/lapidarylaw06.RoomPlays", spec := "roomPlays", apart := false }
def RoomPlaysSaid : Prop := roomPlaysRow.holds Try.pinned (OpenSpec.ofChange roomPlaysSpec)

/-- ITS FALSE NEIGHBOUR: 'it returns false'. Refute it at one input. -/
def roomPlaysWrong : ChangeSpec := { name := "roomPlays", fn := fun _ => fun
  | [d1, d2] => { results := [.lit (.bool false)], args := [d1, d2] }
  | _ => none }
def RoomPlaysWrongFalsely : Prop := roomPlaysRow.holds Try.pinned (OpenSpec.ofChange roomPlaysWrong)

/-- 'lapidarylaw06.RoomLeast': WHATEVER THE INPUT: true; the input reads as it did. -/
def roomLeastSpec : ChangeSpec := { name := "roomLeast", fn := fun _ => fun
  | [d1, d2] => { results := [.lit (.bool true)], args := [d1, d2] }
  | _ => none }
def roomLeastRow : OpenClaim := { program := "ytghlconkmbmflaa", sum := "a9f7478228c3e1e8964f33ffa0c93a9063ac128eab39d9210ab7c84ae5aea974", func := "lapidary/lapidarylaw06.RoomLeast", spec := "roomLeast", apart := false }
def RoomLeastSaid : Prop := roomLeastRow.holds Try.pinned (OpenSpec.ofChange roomLeastSpec)

/-- ITS FALSE NEIGHBOUR: 'it returns false'. Refute it at one input. -/
def roomLeastWrong : ChangeSpec := { name := "roomLeast", fn := fun _ => fun
  | [d1, d2] => { results := [.lit (.bool false)], args := [d1, d2] }
  | _ => none }
def RoomLeastWrongFalsely : Prop := roomLeastRow.holds Try.pinned (OpenSpec.ofChange roomLeastWrong)

/-- 'lapidarylaw06.RoomLast': WHATEVER THE INPUT: true; the input reads as it did. -/
def roomLastSpec : ChangeSpec := { name := "roomLast", fn := fun _ => fun
  | [d] => { results := [.lit (.bool true)], args := [d] }
  | _ => none }
def roomLastRow : OpenClaim := { program := "ytghlconkmbmflaa", sum := "a9f7478228c3e1e8964f33ffa0c93a9063ac128eab39d9210ab7c84ae5aea974", func := "lapidary/lapidarylaw06.RoomLast", spec := "roomLast", apart := false }
def RoomLastSaid : Prop := roomLastRow.holds Try.pinned (OpenSpec.ofChange roomLastSpec)

/-- ITS FALSE NEIGHBOUR: 'it returns false'. Refute it at one input. -/
def roomLastWrong : ChangeSpec := { name := "roomLast", fn := fun _ => fun
  | [d] => { results := [.lit (.bool false)], args := [d] }
  | _ => none }
def RoomLastWrongFalsely : Prop := roomLastRow.holds Try.pinned (OpenSpec.ofChange roomLastWrong)

/-- 'lapidarylaw06.RoomMost': WHATEVER THE INPUT: true; the input reads as it did. -/
def roomMostSpec : ChangeSpec := { name := "roomMost", fn := fun _ => fun
  | [d1, d2] => { results := [.lit (.bool true)], args := [d1, d2] }
  | _ => none }
def roomMostRow : OpenClaim := { program := "ytghlconkmbmflaa", sum := "a9f7478228c3e1e8964f33ffa0c93a9063ac128eab39d9210ab7c84ae5aea974", func := "lapidary/lapidarylaw06.RoomMost", spec := "roomMost", apart := false }
def RoomMostSaid : Prop := roomMostRow.holds Try.pinned (OpenSpec.ofChange roomMostSpec)

/-- ITS FALSE NEIGHBOUR: 'it returns false'. Refute it at one input. -/
def roomMostWrong : ChangeSpec := { name := "roomMost", fn := fun _ => fun
  | [d1, d2] => { results := [.lit (.bool false)], args := [d1, d2] }
  | _ => none }
def RoomMostWrongFalsely : Prop := roomMostRow.holds Try.pinned (OpenSpec.ofChange roomMostWrong)

/- THE SECOND FORM. 'bulk': how many values and letters a reading holds, each counted each time it is reached (what is shared counts as often as it is met; a slice's spare places count too). A statement '..UptoSaid' is the law's where the arguments, and the package variables that the reading takes, are together of bulk at most 1048576: NARROWER than '..Said'. Prove '..Said' where nothing that the law and all that it calls make is longer than what came in: it says more and counts as full. Else prove '..UptoSaid'. A law counts once. -/
mutual
def uptoBulk {H : Type} : DataW H → Nat
  | .lit (.string bytes) => bytes.length + 1
  | .lit _ => 1
  | .nil => 1
  | .ptr d => uptoBulk d + 1
  | .slice elems spare => uptoBulkAll elems + uptoBulkAll spare + 1
  | .agg parts => uptoBulkAll parts + 1
  | .iface _ d => uptoBulk d + 1
  | .map entries => uptoBulkEntries entries + 1
  | .held _ => 1
def uptoBulkAll {H : Type} : List (DataW H) → Nat
  | [] => 0
  | d :: r => uptoBulk d + uptoBulkAll r
def uptoBulkEntries {H : Type} : List (Lit × DataW H) → Nat
  | [] => 0
  | x :: r => uptoBulkEntry x + uptoBulkEntries r
def uptoBulkEntry {H : Type} : Lit × DataW H → Nat
  | (.string bytes, d) => bytes.length + uptoBulk d + 1
  | (_, d) => uptoBulk d + 1
 end
def uptoSmall : (H : Type) → List (DataW H) → Bool := fun _ ds => decide (uptoBulkAll ds ≤ 1048576)
def OpenSpec.upto (s : _root_.Go.ChangeSpec) : _root_.Go.OpenSpec := { _root_.Go.OpenSpec.ofChange s with cond := some uptoSmall }

/-- 'lapidarylaw06.RoomPlays', WHERE WHAT IT READS IS OF BULK AT MOST 1048576: true; the input reads as it did. -/
def roomPlaysUptoRow : OpenClaim := { program := "ytghlconkmbmflaa", sum := "a9f7478228c3e1e8964f33ffa0c93a9063ac128eab39d9210ab7c84ae5aea974", func := "lapidary/lapidarylaw06.RoomPlays", spec := "roomPlays", apart := false, narrowed := true }
def RoomPlaysUptoSaid : Prop := roomPlaysUptoRow.holds Try.pinned (OpenSpec.upto roomPlaysSpec)

/-- 'lapidarylaw06.RoomLeast', WHERE WHAT IT READS IS OF BULK AT MOST 1048576: true; the input reads as it did. -/
def roomLeastUptoRow : OpenClaim := { program := "ytghlconkmbmflaa", sum := "a9f7478228c3e1e8964f33ffa0c93a9063ac128eab39d9210ab7c84ae5aea974", func := "lapidary/lapidarylaw06.RoomLeast", spec := "roomLeast", apart := false, narrowed := true }
def RoomLeastUptoSaid : Prop := roomLeastUptoRow.holds Try.pinned (OpenSpec.upto roomLeastSpec)

/-- 'lapidarylaw06.RoomLast', WHERE WHAT IT READS IS OF BULK AT MOST 1048576: true; the input reads as it did. -/
def roomLastUptoRow : OpenClaim := { program := "ytghlconkmbmflaa", sum := "a9f7478228c3e1e8964f33ffa0c93a9063ac128eab39d9210ab7c84ae5aea974", func := "lapidary/lapidarylaw06.RoomLast", spec := "roomLast", apart := false, narrowed := true }
def RoomLastUptoSaid : Prop := roomLastUptoRow.holds Try.pinned (OpenSpec.upto roomLastSpec)

/-- 'lapidarylaw06.RoomMost', WHERE WHAT IT READS IS OF BULK AT MOST 1048576: true; the input reads as it did. -/
def roomMostUptoRow : OpenClaim := { program := "ytghlconkmbmflaa", sum := "a9f7478228c3e1e8964f33ffa0c93a9063ac128eab39d9210ab7c84ae5aea974", func := "lapidary/lapidarylaw06.RoomMost", spec := "roomMost", apart := false, narrowed := true }
def RoomMostUptoSaid : Prop := roomMostUptoRow.holds Try.pinned (OpenSpec.upto roomMostSpec)

end Rows
end Go.Proofs.Ytghlconkmbmflaa
