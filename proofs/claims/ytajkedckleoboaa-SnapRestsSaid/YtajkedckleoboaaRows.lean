/-
  No cell of these rows narrows 'for every input' (looked for: loops, veiled, ifaces, maps, wideKeys, modest, calm, conditions, laid).
  DERIVED. THE GIVEN ROWS OF THIS SEAT. 9 by the template 'for every input the law returns true; each argument reads behind the call as it read before'; 0 by the template 'total and deterministic' (their statements: YtajkedckleoboaaTotals.lean).
  GIVEN WITH THE SEED: the statements are not yours to turn. If you find one false, say at which input.
  Laid BY PROGRAM, IN A SANDBOX (cutbox-rows.mjs): the forced cells as the released guide's own fill.sh prints them over the translation 19a9db1289e5681e… (all of the seat's roots in one cut). By AI agents, Wed Nov 11 2026. No macro, syntax, notation, axiom, sorry.
-/
import Derived.Test.YtajkedckleoboaaChecked
import GoSem.Claim
import GoSem.ClaimJoined
import GoSem.ClaimMapViews
import Derived.JoinedTies
import Derived.KernelRfl
namespace Go.Proofs.Ytajkedckleoboaa
/- THE CELL 'sum', in the pinned program and in every row, IS THE sha256 OF THE DUMP (.gsa) THAT YtajkedckleoboaaProg.lean LOADS. Nothing in Lean hashes anything: it is a label: what it is worth is what the hold of that sum in a sandbox is worth. -/
noncomputable def Try.pinned : Pinned := { name := "ytajkedckleoboaa", sum := "19a9db1289e5681e417979f56dfe5043b4ea47eaefd22885e446d6a14a3c3fae", checked := Try.checked }
namespace Rows
def none {H : Type} : Left H := { results := [], args := [] }

/-- 'lapidarylaw09.ClogPlays': WHATEVER THE INPUT: true; the input reads as it did. -/
def clogPlaysSpec : ChangeSpec := { name := "clogPlays", fn := fun _ => fun
  | [d1, d2, d3] => { results := [.lit (.bool true)], args := [d1, d2, d3] }
  | _ => none }
def clogPlaysRow : OpenClaim := { program := "ytajkedckleoboaa", sum := "19a9db1289e5681e417979f56dfe5043b4ea47eaefd22885e446d6a14a3c3fae", func := "lapidary/lapidarylaw09.ClogPlays", spec := "clogPlays", apart := false }
def ClogPlaysSaid : Prop := clogPlaysRow.holds Try.pinned (OpenSpec.ofChange clogPlaysSpec)

/-- ITS FALSE NEIGHBOUR: 'it returns false'. Refute it at one input. -/
def clogPlaysWrong : ChangeSpec := { name := "clogPlays", fn := fun _ => fun
  | [d1, d2, d3] => { results := [.lit (.bool false)], args := [d1, d2, d3] }
  | _ => none }
def ClogPlaysWrongFalsely : Prop := clogPlaysRow.holds Try.pinned (OpenSpec.ofChange clogPlaysWrong)

/-- 'lapidarylaw09.ClogOnce': WHATEVER THE INPUT: true; the input reads as it did. -/
def clogOnceSpec : ChangeSpec := { name := "clogOnce", fn := fun _ => fun
  | [d1, d2] => { results := [.lit (.bool true)], args := [d1, d2] }
  | _ => none }
def clogOnceRow : OpenClaim := { program := "ytajkedckleoboaa", sum := "19a9db1289e5681e417979f56dfe5043b4ea47eaefd22885e446d6a14a3c3fae", func := "lapidary/lapidarylaw09.ClogOnce", spec := "clogOnce", apart := false }
def ClogOnceSaid : Prop := clogOnceRow.holds Try.pinned (OpenSpec.ofChange clogOnceSpec)

/-- ITS FALSE NEIGHBOUR: 'it returns false'. Refute it at one input. -/
def clogOnceWrong : ChangeSpec := { name := "clogOnce", fn := fun _ => fun
  | [d1, d2] => { results := [.lit (.bool false)], args := [d1, d2] }
  | _ => none }
def ClogOnceWrongFalsely : Prop := clogOnceRow.holds Try.pinned (OpenSpec.ofChange clogOnceWrong)

/-- 'lapidarylaw09.ClogRuns': WHATEVER THE INPUT: true; the input reads as it did. -/
def clogRunsSpec : ChangeSpec := { name := "clogRuns", fn := fun _ => fun
  | [d1, d2] => { results := [.lit (.bool true)], args := [d1, d2] }
  | _ => none }
def clogRunsRow : OpenClaim := { program := "ytajkedckleoboaa", sum := "19a9db1289e5681e417979f56dfe5043b4ea47eaefd22885e446d6a14a3c3fae", func := "lapidary/lapidarylaw09.ClogRuns", spec := "clogRuns", apart := false }
def ClogRunsSaid : Prop := clogRunsRow.holds Try.pinned (OpenSpec.ofChange clogRunsSpec)

/-- ITS FALSE NEIGHBOUR: 'it returns false'. Refute it at one input. -/
def clogRunsWrong : ChangeSpec := { name := "clogRuns", fn := fun _ => fun
  | [d1, d2] => { results := [.lit (.bool false)], args := [d1, d2] }
  | _ => none }
def ClogRunsWrongFalsely : Prop := clogRunsRow.holds Try.pinned (OpenSpec.ofChange clogRunsWrong)

/-- 'lapidarylaw09.ClogEnds': WHATEVER THE INPUT: true; the input reads as it did. -/
def clogEndsSpec : ChangeSpec := { name := "clogEnds", fn := fun _ => fun
  | [d1, d2] => { results := [.lit (.bool true)], args := [d1, d2] }
  | _ => none }
def clogEndsRow : OpenClaim := { program := "ytajkedckleoboaa", sum := "19a9db1289e5681e417979f56dfe5043b4ea47eaefd22885e446d6a14a3c3fae", func := "lapidary/lapidarylaw09.ClogEnds", spec := "clogEnds", apart := false }
def ClogEndsSaid : Prop := clogEndsRow.holds Try.pinned (OpenSpec.ofChange clogEndsSpec)

/-- ITS FALSE NEIGHBOUR: 'it returns false'. Refute it at one input. -/
def clogEndsWrong : ChangeSpec := { name := "clogEnds", fn := fun _ => fun
  | [d1, d2] => { results := [.lit (.bool false)], args := [d1, d2] }
  | _ => none }
def ClogEndsWrongFalsely : Prop := clogEndsRow.holds Try.pinned (OpenSpec.ofChange clogEndsWrong)

/-- 'lapidarylaw10.SnapPlays': WHATEVER THE INPUT: true; the input reads as it did. -/
def snapPlaysSpec : ChangeSpec := { name := "snapPlays", fn := fun _ => fun
  | [d1, d2] => { results := [.lit (.bool true)], args := [d1, d2] }
  | _ => none }
def snapPlaysRow : OpenClaim := { program := "ytajkedckleoboaa", sum := "19a9db1289e5681e417979f56dfe5043b4ea47eaefd22885e446d6a14a3c3fae", func := "lapidary/lapidarylaw10.SnapPlays", spec := "snapPlays", unfollowed := true, recurses := true, apart := false }
def SnapPlaysSaid : Prop := snapPlaysRow.holds Try.pinned (OpenSpec.ofChange snapPlaysSpec)

/-- ITS FALSE NEIGHBOUR: 'it returns false'. Refute it at one input. -/
def snapPlaysWrong : ChangeSpec := { name := "snapPlays", fn := fun _ => fun
  | [d1, d2] => { results := [.lit (.bool false)], args := [d1, d2] }
  | _ => none }
def SnapPlaysWrongFalsely : Prop := snapPlaysRow.holds Try.pinned (OpenSpec.ofChange snapPlaysWrong)

/-- 'lapidarylaw10.SnapStays': WHATEVER THE INPUT: true; the input reads as it did. -/
def snapStaysSpec : ChangeSpec := { name := "snapStays", fn := fun _ => fun
  | [d1, d2] => { results := [.lit (.bool true)], args := [d1, d2] }
  | _ => none }
def snapStaysRow : OpenClaim := { program := "ytajkedckleoboaa", sum := "19a9db1289e5681e417979f56dfe5043b4ea47eaefd22885e446d6a14a3c3fae", func := "lapidary/lapidarylaw10.SnapStays", spec := "snapStays", unfollowed := true, recurses := true, apart := false }
def SnapStaysSaid : Prop := snapStaysRow.holds Try.pinned (OpenSpec.ofChange snapStaysSpec)

/-- ITS FALSE NEIGHBOUR: 'it returns false'. Refute it at one input. -/
def snapStaysWrong : ChangeSpec := { name := "snapStays", fn := fun _ => fun
  | [d1, d2] => { results := [.lit (.bool false)], args := [d1, d2] }
  | _ => none }
def SnapStaysWrongFalsely : Prop := snapStaysRow.holds Try.pinned (OpenSpec.ofChange snapStaysWrong)

/-- 'lapidarylaw10.SnapDead': WHATEVER THE INPUT: true; the input reads as it did. -/
def snapDeadSpec : ChangeSpec := { name := "snapDead", fn := fun _ => fun
  | [d1, d2, d3] => { results := [.lit (.bool true)], args := [d1, d2, d3] }
  | _ => none }
def snapDeadRow : OpenClaim := { program := "ytajkedckleoboaa", sum := "19a9db1289e5681e417979f56dfe5043b4ea47eaefd22885e446d6a14a3c3fae", func := "lapidary/lapidarylaw10.SnapDead", spec := "snapDead", unfollowed := true, recurses := true, apart := false }
def SnapDeadSaid : Prop := snapDeadRow.holds Try.pinned (OpenSpec.ofChange snapDeadSpec)

/-- ITS FALSE NEIGHBOUR: 'it returns false'. Refute it at one input. -/
def snapDeadWrong : ChangeSpec := { name := "snapDead", fn := fun _ => fun
  | [d1, d2, d3] => { results := [.lit (.bool false)], args := [d1, d2, d3] }
  | _ => none }
def SnapDeadWrongFalsely : Prop := snapDeadRow.holds Try.pinned (OpenSpec.ofChange snapDeadWrong)

/-- 'lapidarylaw10.SnapRests': WHATEVER THE INPUT: true; the input reads as it did. -/
def snapRestsSpec : ChangeSpec := { name := "snapRests", fn := fun _ => fun
  | [d1, d2] => { results := [.lit (.bool true)], args := [d1, d2] }
  | _ => none }
def snapRestsRow : OpenClaim := { program := "ytajkedckleoboaa", sum := "19a9db1289e5681e417979f56dfe5043b4ea47eaefd22885e446d6a14a3c3fae", func := "lapidary/lapidarylaw10.SnapRests", spec := "snapRests", unfollowed := true, recurses := true, apart := false }
def SnapRestsSaid : Prop := snapRestsRow.holds Try.pinned (OpenSpec.ofChange snapRestsSpec)

/-- ITS FALSE NEIGHBOUR: 'it returns false'. Refute it at one input. -/
def snapRestsWrong : ChangeSpec := { name := "snapRests", fn := fun _ => fun
  | [d1, d2] => { results := [.lit (.bool false)], args := [d1, d2] }
  | _ => none }
def SnapRestsWrongFalsely : Prop := snapRestsRow.holds Try.pinned (OpenSpec.ofChange snapRestsWrong)

/-- 'lapidarylaw10.SnapOne': WHATEVER THE INPUT: true; the input reads as it did. -/
def snapOneSpec : ChangeSpec := { name := "snapOne", fn := fun _ => fun
  | [d1, d2] => { results := [.lit (.bool true)], args := [d1, d2] }
  | _ => none }
def snapOneRow : OpenClaim := { program := "ytajkedckleoboaa", sum := "19a9db1289e5681e417979f56dfe5043b4ea47eaefd22885e446d6a14a3c3fae", func := "lapidary/lapidarylaw10.SnapOne", spec := "snapOne", unfollowed := true, recurses := true, apart := false }
def SnapOneSaid : Prop := snapOneRow.holds Try.pinned (OpenSpec.ofChange snapOneSpec)

/-- ITS FALSE NEIGHBOUR: 'it returns false'. Refute it at one input. -/
def snapOneWrong : ChangeSpec := { name := "snapOne", fn := fun _ => fun
  | [d1, d2] => { results := [.lit (.bool false)], args := [d1, d2] }
  | _ => none }
def SnapOneWrongFalsely : Prop := snapOneRow.holds Try.pinned (OpenSpec.ofChange snapOneWrong)

/- THE SECOND FORM. 'bulk': how many values and letters a reading holds, each counted each time it is reached (what is shared counts as often as it is met; a slice's spare places count too). A statement '..UptoSaid' is the law's where the arguments, and the package variables that the reading takes, are together of bulk at most 1048576: NARROWER than '..Said'. Prove '..Said' where nothing that the law and all that it calls make is longer than what came in: it says more and counts as full. Else prove '..UptoSaid'. A law counts once. -/
mutual
def uptoBulk {H : Type} : DataW H → Nat
  | .lit (.string bytes) => bytes.length + 1
  | .lit _ => 1
  | .nil => 1
  | .ptr d => uptoBulk d + 1
  | .slice elems spare => uptoBulkAll elems + uptoBulkAll spare + 1
  | .agg parts => uptoBulkAll parts + 1
  | .iface _ d => uptoBulk d + 1
  | .map entries => uptoBulkEntries entries + 1
  | .held _ => 1
def uptoBulkAll {H : Type} : List (DataW H) → Nat
  | [] => 0
  | d :: r => uptoBulk d + uptoBulkAll r
def uptoBulkEntries {H : Type} : List (Lit × DataW H) → Nat
  | [] => 0
  | x :: r => uptoBulkEntry x + uptoBulkEntries r
def uptoBulkEntry {H : Type} : Lit × DataW H → Nat
  | (.string bytes, d) => bytes.length + uptoBulk d + 1
  | (_, d) => uptoBulk d + 1
 end
def uptoSmall : (H : Type) → List (DataW H) → Bool := fun _ ds => decide (uptoBulkAll ds ≤ 1048576)
def OpenSpec.upto (s : _root_.Go.ChangeSpec) : _root_.Go.OpenSpec := { _root_.Go.OpenSpec.ofChange s with cond := some uptoSmall }

/-- 'lapidarylaw09.ClogPlays', WHERE WHAT IT READS IS OF BULK AT MOST 1048576: true; the input reads as it did. -/
def clogPlaysUptoRow : OpenClaim := { program := "ytajkedckleoboaa", sum := "19a9db1289e5681e417979f56dfe5043b4ea47eaefd22885e446d6a14a3c3fae", func := "lapidary/lapidarylaw09.ClogPlays", spec := "clogPlays", apart := false, narrowed := true }
def ClogPlaysUptoSaid : Prop := clogPlaysUptoRow.holds Try.pinned (OpenSpec.upto clogPlaysSpec)

/-- 'lapidarylaw09.ClogOnce', WHERE WHAT IT READS IS OF BULK AT MOST 1048576: true; the input reads as it did. -/
def clogOnceUptoRow : OpenClaim := { program := "ytajkedckleoboaa", sum := "19a9db1289e5681e417979f56dfe5043b4ea47eaefd22885e446d6a14a3c3fae", func := "lapidary/lapidarylaw09.ClogOnce", spec := "clogOnce", apart := false, narrowed := true }
def ClogOnceUptoSaid : Prop := clogOnceUptoRow.holds Try.pinned (OpenSpec.upto clogOnceSpec)

/-- 'lapidarylaw09.ClogRuns', WHERE WHAT IT READS IS OF BULK AT MOST 1048576: true; the input reads as it did. -/
def clogRunsUptoRow : OpenClaim := { program := "ytajkedckleoboaa", sum := "19a9db1289e5681e417979f56dfe5043b4ea47eaefd22885e446d6a14a3c3fae", func := "lapidary/lapidarylaw09.ClogRuns", spec := "clogRuns", apart := false, narrowed := true }
def ClogRunsUptoSaid : Prop := clogRunsUptoRow.holds Try.pinned (OpenSpec.upto clogRunsSpec)

/-- 'lapidarylaw09.ClogEnds', WHERE WHAT IT READS IS OF BULK AT MOST 1048576: true; the input reads as it did. -/
def clogEndsUptoRow : OpenClaim := { program := "ytajkedckleoboaa", sum := "19a9db1289e5681e417979f56dfe5043b4ea47eaefd22885e446d6a14a3c3fae", func := "lapidary/lapidarylaw09.ClogEnds", spec := "clogEnds", apart := false, narrowed := true }
def ClogEndsUptoSaid : Prop := clogEndsUptoRow.holds Try.pinned (OpenSpec.upto clogEndsSpec)

/-- 'lapidarylaw10.SnapPlays', WHERE WHAT IT READS IS OF BULK AT MOST 1048576: true; the input reads as it did. -/
def snapPlaysUptoRow : OpenClaim := { program := "ytajkedckleoboaa", sum := "19a9db1289e5681e417979f56dfe5043b4ea47eaefd22885e446d6a14a3c3fae", func := "lapidary/lapidarylaw10.SnapPlays", spec := "snapPlays", unfollowed := true, recurses := true, apart := false, narrowed := true }
def SnapPlaysUptoSaid : Prop := snapPlaysUptoRow.holds Try.pinned (OpenSpec.upto snapPlaysSpec)

/-- 'lapidarylaw10.SnapStays', WHERE WHAT IT READS IS OF BULK AT MOST 1048576: true; the input reads as it did. -/
def snapStaysUptoRow : OpenClaim := { program := "ytajkedckleoboaa", sum := "19a9db1289e5681e417979f56dfe5043b4ea47eaefd22885e446d6a14a3c3fae", func := "lapidary/lapidarylaw10.SnapStays", spec := "snapStays", unfollowed := true, recurses := true, apart := false, narrowed := true }
def SnapStaysUptoSaid : Prop := snapStaysUptoRow.holds Try.pinned (OpenSpec.upto snapStaysSpec)

/-- 'lapidarylaw10.SnapDead', WHERE WHAT IT READS IS OF BULK AT MOST 1048576: true; the input reads as it did. -/
def snapDeadUptoRow : OpenClaim := { program := "ytajkedckleoboaa", sum := "19a9db1289e5681e417979f56dfe5043b4ea47eaefd22885e446d6a14a3c3fae", func := "lapidary/lapidarylaw10.SnapDead", spec := "snapDead", unfollowed := true, recurses := true, apart := false, narrowed := true }
def SnapDeadUptoSaid : Prop := snapDeadUptoRow.holds Try.pinned (OpenSpec.upto snapDeadSpec)

/-- 'lapidarylaw10.SnapRests', WHERE WHAT IT READS IS OF BULK AT MOST 1048576: true; the input reads as it did. -/
def snapRestsUptoRow : OpenClaim := { program := "ytajkedckleoboaa", sum := "19a9db1289e5681e417979f56dfe5043b4ea47eaefd22885e446d6a14a3c3fae", func := "lapidary/lapidarylaw10.SnapRests", spec := "snapRests", unfollowed := true, recurses := true, apart := false, narrowed := true }
def SnapRestsUptoSaid : Prop := snapRestsUptoRow.holds Try.pinned (OpenSpec.upto snapRestsSpec)

/-- 'lapidarylaw10.SnapOne', WHERE WHAT IT READS IS OF BULK AT MOST 1048576: true; the input reads as it did. -/
def snapOneUptoRow : OpenClaim := { program := "ytajkedckleoboaa", sum := "19a9db1289e5681e417979f56dfe5043b4ea47eaefd22885e446d6a14a3c3fae", func := "lapidary/lapidarylaw10.SnapOne", spec := "snapOne", unfollowed := true, recurses := true, apart := false, narrowed := true }
def SnapOneUptoSaid : Prop := snapOneUptoRow.holds Try.pinned (OpenSpec.upto snapOneSpec)

end Rows
end Go.Proofs.Ytajkedckleoboaa
