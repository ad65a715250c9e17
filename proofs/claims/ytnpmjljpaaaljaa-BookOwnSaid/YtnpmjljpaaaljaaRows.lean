/-
  No cell of these rows narrows 'for every input' (looked for: loops, veiled, ifaces, maps, wideKeys, modest, calm, conditions, laid).
  DERIVED. THE GIVEN ROWS OF THIS SEAT. 9 by the template 'for every input the law returns true; each argument reads behind the call as it read before'; 0 by the template 'total and deterministic' (their statements: YtnpmjljpaaaljaaTotals.lean).
  GIVEN WITH THE SEED: the statements are not yours to turn. If you find one false, say at which input.
  Laid BY PROGRAM, IN A SANDBOX (cutbox-rows.mjs): the forced cells as the released guide's own fill.sh prints them over the translation 1f77b6229b89e9f4… (all of the seat's roots in one cut). By AI agents, Wed Nov 11 2026. No macro, syntax, notation, axiom, sorry.
-/
import Derived.Test.YtnpmjljpaaaljaaChecked
import GoSem.Claim
import GoSem.ClaimJoined
import GoSem.ClaimMapViews
import Derived.JoinedTies
import Derived.KernelRfl
namespace Go.Proofs.Ytnpmjljpaaaljaa
/- THE CELL 'sum', in the pinned program and in every row, IS THE sha256 OF THE DUMP (.gsa) THAT YtnpmjljpaaaljaaProg.lean LOADS. Nothing in Lean hashes anything: it is a label: what it is worth is what the hold of that sum in a sandbox is worth. -/
noncomputable def Try.pinned : Pinned := { name := "ytnpmjljpaaaljaa", sum := "1f77b6229b89e9f4dc1977fb1110da21b835d7cccfadaba2229d7d3a6e77937f", checked := Try.checked }
namespace Rows
def none {H : Type} : Left H := { results := [], args := [] }

/-- 'lapidarylaw10.SnapPlays': WHATEVER THE INPUT: true; the input reads as it did. -/
def snapPlaysSpec : ChangeSpec := { name := "snapPlays", fn := fun _ => fun
  | [d1, d2] => { results := [.lit (.bool true)], args := [d1, d2] }
  | _ => none }
def snapPlaysRow : OpenClaim := { program := "ytnpmjljpaaaljaa", sum := "1f77b6229b89e9f4dc1977fb1110da21b835d7cccfadaba2229d7d3a6e77937f", func := "lapidary/lapidarylaw10.SnapPlays", spec := "snapPlays", unfollowed := true, recurses := true, apart := false }
def SnapPlaysSaid : Prop := snapPlaysRow.holds Try.pinned (OpenSpec.ofChange snapPlaysSpec)

/-- ITS FALSE NEIGHBOUR: 'it returns false'. Refute it at one input. -/
def snapPlaysWrong : ChangeSpec := { name := "snapPlays", fn := fun _ => fun
  | [d1, d2] => { results := [.lit (.bool false)], args := [d1, d2] }
  | _ => none }
def SnapPlaysWrongFalsely : Prop := snapPlaysRow.holds Try.pinned (OpenSpec.ofChange snapPlaysWrong)

/-- 'lapidarylaw10.SnapStays': WHATEVER THE INPUT: true; the input reads as it did. -/
def snapStaysSpec : ChangeSpec := { name := "snapStays", fn := fun _ => fun
  | [d1, d2] => { results := [.lit (.bool true)], args := [d1, d2] }
  | _ => none }
def snapStaysRow : OpenClaim := { program := "ytnpmjljpaaaljaa", sum := "1f77b6229b89e9f4dc1977fb1110da21b835d7cccfadaba2229d7d3a6e77937f", func := "lapidary/lapidarylaw10.SnapStays", spec := "snapStays", unfollowed := true, recurses := true, apart := false }
def SnapStaysSaid : Prop := snapStaysRow.holds Try.pinned (OpenSpec.ofChange snapStaysSpec)

/-- ITS FALSE NEIGHBOUR: 'it returns false'. Refute it at one input. -/
def snapStaysWrong : ChangeSpec := { name := "snapStays", fn := fun _ => fun
  | [d1, d2] => { results := [.lit (.bool false)], args := [d1, d2] }
  | _ => none }
def SnapStaysWrongFalsely : Prop := snapStaysRow.holds Try.pinned (OpenSpec.ofChange snapStaysWrong)

/-- 'lapidarylaw10.SnapDead': WHATEVER THE INPUT: true; the input reads as it did. -/
def snapDeadSpec : ChangeSpec := { name := "snapDead", fn := fun _ => fun
  | [d1, d2, d3] => { results := [.lit (.bool true)], args := [d1, d2, d3] }
  | _ => none }
def snapDeadRow : OpenClaim := { program := "ytnpmjljpaaaljaa", sum := "1f77b6229b89e9f4dc1977fb1110da21b835d7cccfadaba2229d7d3a6e77937f", func := "lapidary/lapidarylaw10.SnapDead", spec := "snapDead", unfollowed := true, recurses := true, apart := false }
def SnapDeadSaid : Prop := snapDeadRow.holds Try.pinned (OpenSpec.ofChange snapDeadSpec)

/-- ITS FALSE NEIGHBOUR: 'it returns false'. Refute it at one input. -/
def snapDeadWrong : ChangeSpec := { name := "snapDead", fn := fun _ => fun
  | [d1, d2, d3] => { results := [.lit (.bool false)], args := [d1, d2, d3] }
  | _ => none }
def SnapDeadWrongFalsely : Prop := snapDeadRow.holds Try.pinned (OpenSpec.ofChange snapDeadWrong)

/-- 'lapidarylaw10.SnapRests': WHATEVER THE INPUT: true; the input reads as it did. -/
def snapRestsSpec : ChangeSpec := { name := "snapRests", fn := fun _ => fun
  | [d1, d2] => { results := [.lit (.bool true)], args := [d1, d2] }
  | _ => none }
def snapRestsRow : OpenClaim := { program := "ytnpmjljpaaaljaa", sum := "1f77b6229b89e9f4dc1977fb1110da21b835d7cccfadaba2229d7d3a6e77937f", func := "lapidary/lapidarylaw10.SnapRests", spec := "snapRests", unfollowed := true, recurses := true, apart := false }
def SnapRestsSaid : Prop := snapRestsRow.holds Try.pinned (OpenSpec.ofChange snapRestsSpec)

/-- ITS FALSE NEIGHBOUR: 'it returns false'. Refute it at one input. -/
def snapRestsWrong : ChangeSpec := { name := "snapRests", fn := fun _ => fun
  | [d1, d2] => { results := [.lit (.bool false)], args := [d1, d2] }
  | _ => none }
def SnapRestsWrongFalsely : Prop := snapRestsRow.holds Try.pinned (OpenSpec.ofChange snapRestsWrong)

/-- 'lapidarylaw10.SnapOne': WHATEVER THE INPUT: true; the input reads as it did. -/
def snapOneSpec : ChangeSpec := { name := "snapOne", fn := fun _ => fun
  | [d1, d2] => { results := [.lit (.bool true)], args := [d1, d2] }
  | _ => none }
def snapOneRow : OpenClaim := { program := "ytnpmjljpaaaljaa", sum := "1f77b6229b89e9f4dc1977fb1110da21b835d7cccfadaba2229d7d3a6e77937f", func := "lapidary/lapidarylaw10.SnapOne", spec := "snapOne", unfollowed := true, recurses := true, apart := false }
def SnapOneSaid : Prop := snapOneRow.holds Try.pinned (OpenSpec.ofChange snapOneSpec)

/-- ITS FALSE NEIGHBOUR: 'it returns false'. Refute it at one input. -/
def snapOneWrong : ChangeSpec := { name := "snapOne", fn := fun _ => fun
  | [d1, d2] => { results := [.lit (.bool false)], args := [d1, d2] }
  | _ => none }
def SnapOneWrongFalsely : Prop := snapOneRow.holds Try.pinned (OpenSpec.ofChange snapOneWrong)

/-- 'lapidarylaw11.BookNames': WHATEVER THE INPUT: true; the input reads as it did. -/
def bookNamesSpec : ChangeSpec := { name := "bookNames", fn := fun _ => fun
  | [d] => { results := [.lit (.bool true)], args := [d] }
  | _ => none }
def bookNamesRow : OpenClaim := { program := "ytnpmjljpaaaljaa", sum := "1f77b6229b89e9f4dc1977fb1110da21b835d7cccfadaba2229d7d3a6e77937f", func := "lapidary/lapidarylaw11.BookNames", spec := "bookNames", unfollowed := true, recurses := true, apart := false }
def BookNamesSaid : Prop := bookNamesRow.holds Try.pinned (OpenSpec.ofChange bookNamesSpec)

/-- ITS FALSE NEIGHBOUR: 'it returns false'. Refute it at one input. -/
def bookNamesWrong : ChangeSpec := { name := "bookNames", fn := fun _ => fun
  | [d] => { results := [.lit (.bool false)], args := [d] }
  | _ => none }
def BookNamesWrongFalsely : Prop := bookNamesRow.holds Try.pinned (OpenSpec.ofChange bookNamesWrong)

/-- 'lapidarylaw11.BookFirst': WHATEVER THE INPUT: true; the input reads as it did. -/
def bookFirstSpec : ChangeSpec := { name := "bookFirst", fn := fun _ => fun
  | [d1, d2, d3] => { results := [.lit (.bool true)], args := [d1, d2, d3] }
  | _ => none }
def bookFirstRow : OpenClaim := { program := "ytnpmjljpaaaljaa", sum := "1f77b6229b89e9f4dc1977fb1110da21b835d7cccfadaba2229d7d3a6e77937f", func := "lapidary/lapidarylaw11.BookFirst", spec := "bookFirst", unfollowed := true, recurses := true, apart := false }
def BookFirstSaid : Prop := bookFirstRow.holds Try.pinned (OpenSpec.ofChange bookFirstSpec)

/-- ITS FALSE NEIGHBOUR: 'it returns false'. Refute it at one input. -/
def bookFirstWrong : ChangeSpec := { name := "bookFirst", fn := fun _ => fun
  | [d1, d2, d3] => { results := [.lit (.bool false)], args := [d1, d2, d3] }
  | _ => none }
def BookFirstWrongFalsely : Prop := bookFirstRow.holds Try.pinned (OpenSpec.ofChange bookFirstWrong)

/-- 'lapidarylaw11.BookOwn': WHATEVER THE INPUT: true; the input reads as it did. -/
def bookOwnSpec : ChangeSpec := { name := "bookOwn", fn := fun _ => fun
  | [d1, d2] => { results := [.lit (.bool true)], args := [d1, d2] }
  | _ => none }
def bookOwnRow : OpenClaim := { program := "ytnpmjljpaaaljaa", sum := "1f77b6229b89e9f4dc1977fb1110da21b835d7cccfadaba2229d7d3a6e77937f", func := "lapidary/lapidarylaw11.BookOwn", spec := "bookOwn", unfollowed := true, recurses := true, apart := false }
def BookOwnSaid : Prop := bookOwnRow.holds Try.pinned (OpenSpec.ofChange bookOwnSpec)

/-- ITS FALSE NEIGHBOUR: 'it returns false'. Refute it at one input. -/
def bookOwnWrong : ChangeSpec := { name := "bookOwn", fn := fun _ => fun
  | [d1, d2] => { results := [.lit (.bool false)], args := [d1, d2] }
  | _ => none }
def BookOwnWrongFalsely : Prop := bookOwnRow.holds Try.pinned (OpenSpec.ofChange bookOwnWrong)

/-- 'lapidarylaw11.BookPrunes': WHATEVER THE INPUT: true; the input reads as it did. -/
def bookPrunesSpec : ChangeSpec := { name := "bookPrunes", fn := fun _ => fun
  | [d] => { results := [.lit (.bool true)], args := [d] }
  | _ => none }
def bookPrunesRow : OpenClaim := { program := "ytnpmjljpaaaljaa", sum := "1f77b6229b89e9f4dc1977fb1110da21b835d7cccfadaba2229d7d3a6e77937f", func := "lapidary/lapidarylaw11.BookPrunes", spec := "bookPrunes", unfollowed := true, recurses := true, apart := false }
def BookPrunesSaid : Prop := bookPrunesRow.holds Try.pinned (OpenSpec.ofChange bookPrunesSpec)

/-- ITS FALSE NEIGHBOUR: 'it returns false'. Refute it at one input. -/
def bookPrunesWrong : ChangeSpec := { name := "bookPrunes", fn := fun _ => fun
  | [d] => { results := [.lit (.bool false)], args := [d] }
  | _ => none }
def BookPrunesWrongFalsely : Prop := bookPrunesRow.holds Try.pinned (OpenSpec.ofChange bookPrunesWrong)

/- THE SECOND FORM. 'bulk': how many values and letters a reading holds, each counted each time it is reached (what is shared counts as often as it is met; a slice's spare places count too). A statement '..UptoSaid' is the law's where the arguments, and the package variables that the reading takes, are together of bulk at most 1048576: NARROWER than '..Said'. Prove '..Said' where nothing that the law and all that it calls make is longer than what came in: it says more and counts as full. Else prove '..UptoSaid'. A law counts once. -/
mutual
def uptoBulk {H : Type} : DataW H → Nat
  | .lit (.string bytes) => bytes.length + 1
  | .lit _ => 1
  | .nil => 1
  | .ptr d => uptoBulk d + 1
  | .slice elems spare => uptoBulkAll elems + uptoBulkAll spare + 1
  | .agg parts => uptoBulkAll parts + 1
  | .iface _ d => uptoBulk d + 1
  | .map entries => uptoBulkEntries entries + 1
  | .held _ => 1
def uptoBulkAll {H : Type} : List (DataW H) → Nat
  | [] => 0
  | d :: r => uptoBulk d + uptoBulkAll r
def uptoBulkEntries {H : Type} : List (Lit × DataW H) → Nat
  | [] => 0
  | x :: r => uptoBulkEntry x + uptoBulkEntries r
def uptoBulkEntry {H : Type} : Lit × DataW H → Nat
  | (.string bytes, d) => bytes.length + uptoBulk d + 1
  | (_, d) => uptoBulk d + 1
 end
def uptoSmall : (H : Type) → List (DataW H) → Bool := fun _ ds => decide (uptoBulkAll ds ≤ 1048576)
def OpenSpec.upto (s : _root_.Go.ChangeSpec) : _root_.Go.OpenSpec := { _root_.Go.OpenSpec.ofChange s with cond := some uptoSmall }

/-- 'lapidarylaw10.SnapPlays', WHERE WHAT IT READS IS OF BULK AT MOST 1048576: true; the input reads as it did. -/
def snapPlaysUptoRow : OpenClaim := { program := "ytnpmjljpaaaljaa", sum := "1f77b6229b89e9f4dc1977fb1110da21b835d7cccfadaba2229d7d3a6e77937f", func := "lapidary/lapidarylaw10.SnapPlays", spec := "snapPlays", unfollowed := true, recurses := true, apart := false, narrowed := true }
def SnapPlaysUptoSaid : Prop := snapPlaysUptoRow.holds Try.pinned (OpenSpec.upto snapPlaysSpec)

/-- 'lapidarylaw10.SnapStays', WHERE WHAT IT READS IS OF BULK AT MOST 1048576: true; the input reads as it did. -/
def snapStaysUptoRow : OpenClaim := { program := "ytnpmjljpaaaljaa", sum := "1f77b6229b89e9f4dc1977fb1110da21b835d7cccfadaba2229d7d3a6e77937f", func := "lapidary/lapidarylaw10.SnapStays", spec := "snapStays", unfollowed := true, recurses := true, apart := false, narrowed := true }
def SnapStaysUptoSaid : Prop := snapStaysUptoRow.holds Try.pinned (OpenSpec.upto snapStaysSpec)

/-- 'lapidarylaw10.SnapDead', WHERE WHAT IT READS IS OF BULK AT MOST 1048576: true; the input reads as it did. -/
def snapDeadUptoRow : OpenClaim := { program := "ytnpmjljpaaaljaa", sum := "1f77b6229b89e9f4dc1977fb1110da21b835d7cccfadaba2229d7d3a6e77937f", func := "lapidary/lapidarylaw10.SnapDead", spec := "snapDead", unfollowed := true, recurses := true, apart := false, narrowed := true }
def SnapDeadUptoSaid : Prop := snapDeadUptoRow.holds Try.pinned (OpenSpec.upto snapDeadSpec)

/-- 'lapidarylaw10.SnapRests', WHERE WHAT IT READS IS OF BULK AT MOST 1048576: true; the input reads as it did. -/
def snapRestsUptoRow : OpenClaim := { program := "ytnpmjljpaaaljaa", sum := "1f77b6229b89e9f4dc1977fb1110da21b835d7cccfadaba2229d7d3a6e77937f", func := "lapidary/lapidarylaw10.SnapRests", spec := "snapRests", unfollowed := true, recurses := true, apart := false, narrowed := true }
def SnapRestsUptoSaid : Prop := snapRestsUptoRow.holds Try.pinned (OpenSpec.upto snapRestsSpec)

/-- 'lapidarylaw10.SnapOne', WHERE WHAT IT READS IS OF BULK AT MOST 1048576: true; the input reads as it did. -/
def snapOneUptoRow : OpenClaim := { program := "ytnpmjljpaaaljaa", sum := "1f77b6229b89e9f4dc1977fb1110da21b835d7cccfadaba2229d7d3a6e77937f", func := "lapidary/lapidarylaw10.SnapOne", spec := "snapOne", unfollowed := true, recurses := true, apart := false, narrowed := true }
def SnapOneUptoSaid : Prop := snapOneUptoRow.holds Try.pinned (OpenSpec.upto snapOneSpec)

/-- 'lapidarylaw11.BookNames', WHERE WHAT IT READS IS OF BULK AT MOST 1048576: true; the input reads as it did. -/
def bookNamesUptoRow : OpenClaim := { program := "ytnpmjljpaaaljaa", sum := "1f77b6229b89e9f4dc1977fb1110da21b835d7cccfadaba2229d7d3a6e77937f", func := "lapidary/lapidarylaw11.BookNames", spec := "bookNames", unfollowed := true, recurses := true, apart := false, narrowed := true }
def BookNamesUptoSaid : Prop := bookNamesUptoRow.holds Try.pinned (OpenSpec.upto bookNamesSpec)

/-- 'lapidarylaw11.BookFirst', WHERE WHAT IT READS IS OF BULK AT MOST 1048576: true; the input reads as it did. -/
def bookFirstUptoRow : OpenClaim := { program := "ytnpmjljpaaaljaa", sum := "1f77b6229b89e9f4dc1977fb1110da21b835d7cccfadaba2229d7d3a6e77937f", func := "lapidary/lapidarylaw11.BookFirst", spec := "bookFirst", unfollowed := true, recurses := true, apart := false, narrowed := true }
def BookFirstUptoSaid : Prop := bookFirstUptoRow.holds Try.pinned (OpenSpec.upto bookFirstSpec)

/-- 'lapidarylaw11.BookOwn', WHERE WHAT IT READS IS OF BULK AT MOST 1048576: true; the input reads as it did. -/
def bookOwnUptoRow : OpenClaim := { program := "ytnpmjljpaaaljaa", sum := "1f77b6229b89e9f4dc1977fb1110da21b835d7cccfadaba2229d7d3a6e77937f", func := "lapidary/lapidarylaw11.BookOwn", spec := "bookOwn", unfollowed := true, recurses := true, apart := false, narrowed := true }
def BookOwnUptoSaid : Prop := bookOwnUptoRow.holds Try.pinned (OpenSpec.upto bookOwnSpec)

/-- 'lapidarylaw11.BookPrunes', WHERE WHAT IT READS IS OF BULK AT MOST 1048576: true; the input reads as it did. -/
def bookPrunesUptoRow : OpenClaim := { program := "ytnpmjljpaaaljaa", sum := "1f77b6229b89e9f4dc1977fb1110da21b835d7cccfadaba2229d7d3a6e77937f", func := "lapidary/lapidarylaw11.BookPrunes", spec := "bookPrunes", unfollowed := true, recurses := true, apart := false, narrowed := true }
def BookPrunesUptoSaid : Prop := bookPrunesUptoRow.holds Try.pinned (OpenSpec.upto bookPrunesSpec)

end Rows
end Go.Proofs.Ytnpmjljpaaaljaa
