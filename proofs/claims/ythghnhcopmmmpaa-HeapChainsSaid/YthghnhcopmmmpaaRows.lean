/-
  No cell of these rows narrows 'for every input' (looked for: loops, veiled, ifaces, maps, wideKeys, modest, calm, conditions, laid).
  DERIVED. THE GIVEN ROWS OF THIS SEAT. 11 by the template 'for every input the law returns true; each argument reads behind the call as it read before'; 0 by the template 'total and deterministic' (their statements: YthghnhcopmmmpaaTotals.lean).
  GIVEN WITH THE SEED: the statements are not yours to turn. If you find one false, say at which input.
  Laid BY PROGRAM, IN A SANDBOX (cutbox-rows.mjs): the forced cells as the released guide's own fill.sh prints them over the translation fc380165502d9733… (all of the seat's roots in one cut). By AI agents, Wed Nov 11 2026. No macro, syntax, notation, axiom, sorry.
-/
import Derived.Test.YthghnhcopmmmpaaChecked
import GoSem.Claim
import GoSem.ClaimJoined
import GoSem.ClaimMapViews
import Derived.JoinedTies
import Derived.KernelRfl
namespace Go.Proofs.Ythghnhcopmmmpaa
/- THE CELL 'sum', in the pinned program and in every row, IS THE sha256 OF THE DUMP (.gsa) THAT YthghnhcopmmmpaaProg.lean LOADS. Nothing in Lean hashes anything: it is a label: what it is worth is what the hold of that sum in a sandbox is worth. -/
noncomputable def Try.pinned : Pinned := { name := "ythghnhcopmmmpaa", sum := "fc380165502d97334e1769d81d05e659cdc148969eac687a265aaecb4427d614", checked := Try.checked }
namespace Rows
def none {H : Type} : Left H := { results := [], args := [] }

/-- 'lapidarylaw05.PagePlays': WHATEVER THE INPUT: true; the input reads as it did. -/
def pagePlaysSpec : ChangeSpec := { name := "pagePlays", fn := fun _ => fun
  | [d1, d2] => { results := [.lit (.bool true)], args := [d1, d2] }
  | _ => none }
def pagePlaysRow : OpenClaim := { program := "ythghnhcopmmmpaa", sum := "fc380165502d97334e1769d81d05e659cdc148969eac687a265aaecb4427d614", func := "lapidary/lapidarylaw05.PagePlays", spec := "pagePlays", plainKeys := false, apart := false }
def PagePlaysSaid : Prop := pagePlaysRow.holds Try.pinned (OpenSpec.ofChange pagePlaysSpec)

/-- ITS FALSE NEIGHBOUR: 'it returns false'. Refute it at one input. -/
def pagePlaysWrong : ChangeSpec := { name := "pagePlays", fn := fun _ => fun
  | [d1, d2] => { results := [.lit (.bool false)], args := [d1, d2] }
  | _ => none }
def PagePlaysWrongFalsely : Prop := pagePlaysRow.holds Try.pinned (OpenSpec.ofChange pagePlaysWrong)

/-- 'lapidarylaw05.PageLoads': WHATEVER THE INPUT: true; the input reads as it did. -/
def pageLoadsSpec : ChangeSpec := { name := "pageLoads", fn := fun _ => fun
  | [d] => { results := [.lit (.bool true)], args := [d] }
  | _ => none }
def pageLoadsRow : OpenClaim := { program := "ythghnhcopmmmpaa", sum := "fc380165502d97334e1769d81d05e659cdc148969eac687a265aaecb4427d614", func := "lapidary/lapidarylaw05.PageLoads", spec := "pageLoads", plainKeys := false, apart := false }
def PageLoadsSaid : Prop := pageLoadsRow.holds Try.pinned (OpenSpec.ofChange pageLoadsSpec)

/-- ITS FALSE NEIGHBOUR: 'it returns false'. Refute it at one input. -/
def pageLoadsWrong : ChangeSpec := { name := "pageLoads", fn := fun _ => fun
  | [d] => { results := [.lit (.bool false)], args := [d] }
  | _ => none }
def PageLoadsWrongFalsely : Prop := pageLoadsRow.holds Try.pinned (OpenSpec.ofChange pageLoadsWrong)

/-- 'lapidarylaw05.PageFills': WHATEVER THE INPUT: true; the input reads as it did. -/
def pageFillsSpec : ChangeSpec := { name := "pageFills", fn := fun _ => fun
  | [d1, d2] => { results := [.lit (.bool true)], args := [d1, d2] }
  | _ => none }
def pageFillsRow : OpenClaim := { program := "ythghnhcopmmmpaa", sum := "fc380165502d97334e1769d81d05e659cdc148969eac687a265aaecb4427d614", func := "lapidary/lapidarylaw05.PageFills", spec := "pageFills", plainKeys := false, apart := false }
def PageFillsSaid : Prop := pageFillsRow.holds Try.pinned (OpenSpec.ofChange pageFillsSpec)

/-- ITS FALSE NEIGHBOUR: 'it returns false'. Refute it at one input. -/
def pageFillsWrong : ChangeSpec := { name := "pageFills", fn := fun _ => fun
  | [d1, d2] => { results := [.lit (.bool false)], args := [d1, d2] }
  | _ => none }
def PageFillsWrongFalsely : Prop := pageFillsRow.holds Try.pinned (OpenSpec.ofChange pageFillsWrong)

/-- 'lapidarylaw05.PageStays': WHATEVER THE INPUT: true; the input reads as it did. -/
def pageStaysSpec : ChangeSpec := { name := "pageStays", fn := fun _ => fun
  | [d1, d2] => { results := [.lit (.bool true)], args := [d1, d2] }
  | _ => none }
def pageStaysRow : OpenClaim := { program := "ythghnhcopmmmpaa", sum := "fc380165502d97334e1769d81d05e659cdc148969eac687a265aaecb4427d614", func := "lapidary/lapidarylaw05.PageStays", spec := "pageStays", plainKeys := false, apart := false }
def PageStaysSaid : Prop := pageStaysRow.holds Try.pinned (OpenSpec.ofChange pageStaysSpec)

/-- ITS FALSE NEIGHBOUR: 'it returns false'. Refute it at one input. -/
def pageStaysWrong : ChangeSpec := { name := "pageStays", fn := fun _ => fun
  | [d1, d2] => { results := [.lit (.bool false)], args := [d1, d2] }
  | _ => none }
def PageStaysWrongFalsely : Prop := pageStaysRow.holds Try.pinned (OpenSpec.ofChange pageStaysWrong)

/-- 'lapidarylaw05.PageStamps': WHATEVER THE INPUT: true; the input reads as it did. -/
def pageStampsSpec : ChangeSpec := { name := "pageStamps", fn := fun _ => fun
  | [d1, d2, d3] => { results := [.lit (.bool true)], args := [d1, d2, d3] }
  | _ => none }
def pageStampsRow : OpenClaim := { program := "ythghnhcopmmmpaa", sum := "fc380165502d97334e1769d81d05e659cdc148969eac687a265aaecb4427d614", func := "lapidary/lapidarylaw05.PageStamps", spec := "pageStamps", plainKeys := false, apart := false }
def PageStampsSaid : Prop := pageStampsRow.holds Try.pinned (OpenSpec.ofChange pageStampsSpec)

/-- ITS FALSE NEIGHBOUR: 'it returns false'. Refute it at one input. -/
def pageStampsWrong : ChangeSpec := { name := "pageStamps", fn := fun _ => fun
  | [d1, d2, d3] => { results := [.lit (.bool false)], args := [d1, d2, d3] }
  | _ => none }
def PageStampsWrongFalsely : Prop := pageStampsRow.holds Try.pinned (OpenSpec.ofChange pageStampsWrong)

/-- 'lapidarylaw05.PageTwice': WHATEVER THE INPUT: true; the input reads as it did. -/
def pageTwiceSpec : ChangeSpec := { name := "pageTwice", fn := fun _ => fun
  | [d1, d2] => { results := [.lit (.bool true)], args := [d1, d2] }
  | _ => none }
def pageTwiceRow : OpenClaim := { program := "ythghnhcopmmmpaa", sum := "fc380165502d97334e1769d81d05e659cdc148969eac687a265aaecb4427d614", func := "lapidary/lapidarylaw05.PageTwice", spec := "pageTwice", plainKeys := false, apart := false }
def PageTwiceSaid : Prop := pageTwiceRow.holds Try.pinned (OpenSpec.ofChange pageTwiceSpec)

/-- ITS FALSE NEIGHBOUR: 'it returns false'. Refute it at one input. -/
def pageTwiceWrong : ChangeSpec := { name := "pageTwice", fn := fun _ => fun
  | [d1, d2] => { results := [.lit (.bool false)], args := [d1, d2] }
  | _ => none }
def PageTwiceWrongFalsely : Prop := pageTwiceRow.holds Try.pinned (OpenSpec.ofChange pageTwiceWrong)

/-- 'lapidarylaw07.HeapPlays': WHATEVER THE INPUT: true; the input reads as it did. -/
def heapPlaysSpec : ChangeSpec := { name := "heapPlays", fn := fun _ => fun
  | [d1, d2, d3] => { results := [.lit (.bool true)], args := [d1, d2, d3] }
  | _ => none }
def heapPlaysRow : OpenClaim := { program := "ythghnhcopmmmpaa", sum := "fc380165502d97334e1769d81d05e659cdc148969eac687a265aaecb4427d614", func := "lapidary/lapidarylaw07.HeapPlays", spec := "heapPlays", plainKeys := false, apart := false }
def HeapPlaysSaid : Prop := heapPlaysRow.holds Try.pinned (OpenSpec.ofChange heapPlaysSpec)

/-- ITS FALSE NEIGHBOUR: 'it returns false'. Refute it at one input. -/
def heapPlaysWrong : ChangeSpec := { name := "heapPlays", fn := fun _ => fun
  | [d1, d2, d3] => { results := [.lit (.bool false)], args := [d1, d2, d3] }
  | _ => none }
def HeapPlaysWrongFalsely : Prop := heapPlaysRow.holds Try.pinned (OpenSpec.ofChange heapPlaysWrong)

/-- 'lapidarylaw07.HeapSteady': WHATEVER THE INPUT: true; the input reads as it did. -/
def heapSteadySpec : ChangeSpec := { name := "heapSteady", fn := fun _ => fun
  | [d1, d2, d3] => { results := [.lit (.bool true)], args := [d1, d2, d3] }
  | _ => none }
def heapSteadyRow : OpenClaim := { program := "ythghnhcopmmmpaa", sum := "fc380165502d97334e1769d81d05e659cdc148969eac687a265aaecb4427d614", func := "lapidary/lapidarylaw07.HeapSteady", spec := "heapSteady", plainKeys := false, apart := false }
def HeapSteadySaid : Prop := heapSteadyRow.holds Try.pinned (OpenSpec.ofChange heapSteadySpec)

/-- ITS FALSE NEIGHBOUR: 'it returns false'. Refute it at one input. -/
def heapSteadyWrong : ChangeSpec := { name := "heapSteady", fn := fun _ => fun
  | [d1, d2, d3] => { results := [.lit (.bool false)], args := [d1, d2, d3] }
  | _ => none }
def HeapSteadyWrongFalsely : Prop := heapSteadyRow.holds Try.pinned (OpenSpec.ofChange heapSteadyWrong)

/-- 'lapidarylaw07.HeapChains': WHATEVER THE INPUT: true; the input reads as it did. -/
def heapChainsSpec : ChangeSpec := { name := "heapChains", fn := fun _ => fun
  | [d1, d2, d3] => { results := [.lit (.bool true)], args := [d1, d2, d3] }
  | _ => none }
def heapChainsRow : OpenClaim := { program := "ythghnhcopmmmpaa", sum := "fc380165502d97334e1769d81d05e659cdc148969eac687a265aaecb4427d614", func := "lapidary/lapidarylaw07.HeapChains", spec := "heapChains", plainKeys := false, apart := false }
def HeapChainsSaid : Prop := heapChainsRow.holds Try.pinned (OpenSpec.ofChange heapChainsSpec)

/-- ITS FALSE NEIGHBOUR: 'it returns false'. Refute it at one input. -/
def heapChainsWrong : ChangeSpec := { name := "heapChains", fn := fun _ => fun
  | [d1, d2, d3] => { results := [.lit (.bool false)], args := [d1, d2, d3] }
  | _ => none }
def HeapChainsWrongFalsely : Prop := heapChainsRow.holds Try.pinned (OpenSpec.ofChange heapChainsWrong)

/-- 'lapidarylaw07.HeapPools': WHATEVER THE INPUT: true; the input reads as it did. -/
def heapPoolsSpec : ChangeSpec := { name := "heapPools", fn := fun _ => fun
  | [d1, d2] => { results := [.lit (.bool true)], args := [d1, d2] }
  | _ => none }
def heapPoolsRow : OpenClaim := { program := "ythghnhcopmmmpaa", sum := "fc380165502d97334e1769d81d05e659cdc148969eac687a265aaecb4427d614", func := "lapidary/lapidarylaw07.HeapPools", spec := "heapPools", plainKeys := false, apart := false }
def HeapPoolsSaid : Prop := heapPoolsRow.holds Try.pinned (OpenSpec.ofChange heapPoolsSpec)

/-- ITS FALSE NEIGHBOUR: 'it returns false'. Refute it at one input. -/
def heapPoolsWrong : ChangeSpec := { name := "heapPools", fn := fun _ => fun
  | [d1, d2] => { results := [.lit (.bool false)], args := [d1, d2] }
  | _ => none }
def HeapPoolsWrongFalsely : Prop := heapPoolsRow.holds Try.pinned (OpenSpec.ofChange heapPoolsWrong)

/-- 'lapidarylaw07.HeapFree': WHATEVER THE INPUT: true; the input reads as it did. -/
def heapFreeSpec : ChangeSpec := { name := "heapFree", fn := fun _ => fun
  | [d1, d2] => { results := [.lit (.bool true)], args := [d1, d2] }
  | _ => none }
def heapFreeRow : OpenClaim := { program := "ythghnhcopmmmpaa", sum := "fc380165502d97334e1769d81d05e659cdc148969eac687a265aaecb4427d614", func := "lapidary/lapidarylaw07.HeapFree", spec := "heapFree", plainKeys := false, apart := false }
def HeapFreeSaid : Prop := heapFreeRow.holds Try.pinned (OpenSpec.ofChange heapFreeSpec)

/-- ITS FALSE NEIGHBOUR: 'it returns false'. Refute it at one input. -/
def heapFreeWrong : ChangeSpec := { name := "heapFree", fn := fun _ => fun
  | [d1, d2] => { results := [.lit (.bool false)], args := [d1, d2] }
  | _ => none }
def HeapFreeWrongFalsely : Prop := heapFreeRow.holds Try.pinned (OpenSpec.ofChange heapFreeWrong)

/- THE SECOND FORM. 'bulk': how many values and letters a reading holds, each counted each time it is reached (what is shared counts as often as it is met; a slice's spare places count too). A statement '..UptoSaid' is the law's where the arguments, and the package variables that the reading takes, are together of bulk at most 1048576: NARROWER than '..Said'. Prove '..Said' where nothing that the law and all that it calls make is longer than what came in: it says more and counts as full. Else prove '..UptoSaid'. A law counts once. -/
mutual
def uptoBulk {H : Type} : DataW H → Nat
  | .lit (.string bytes) => bytes.length + 1
  | .lit _ => 1
  | .nil => 1
  | .ptr d => uptoBulk d + 1
  | .slice elems spare => uptoBulkAll elems + uptoBulkAll spare + 1
  | .agg parts => uptoBulkAll parts + 1
  | .iface _ d => uptoBulk d + 1
  | .map entries => uptoBulkEntries entries + 1
  | .held _ => 1
def uptoBulkAll {H : Type} : List (DataW H) → Nat
  | [] => 0
  | d :: r => uptoBulk d + uptoBulkAll r
def uptoBulkEntries {H : Type} : List (Lit × DataW H) → Nat
  | [] => 0
  | x :: r => uptoBulkEntry x + uptoBulkEntries r
def uptoBulkEntry {H : Type} : Lit × DataW H → Nat
  | (.string bytes, d) => bytes.length + uptoBulk d + 1
  | (_, d) => uptoBulk d + 1
 end
def uptoSmall : (H : Type) → List (DataW H) → Bool := fun _ ds => decide (uptoBulkAll ds ≤ 1048576)
def OpenSpec.upto (s : _root_.Go.ChangeSpec) : _root_.Go.OpenSpec := { _root_.Go.OpenSpec.ofChange s with cond := some uptoSmall }

/-- 'lapidarylaw05.PagePlays', WHERE WHAT IT READS IS OF BULK AT MOST 1048576: true; the input reads as it did. -/
def pagePlaysUptoRow : OpenClaim := { program := "ythghnhcopmmmpaa", sum := "fc380165502d97334e1769d81d05e659cdc148969eac687a265aaecb4427d614", func := "lapidary/lapidarylaw05.PagePlays", spec := "pagePlays", plainKeys := false, apart := false, narrowed := true }
def PagePlaysUptoSaid : Prop := pagePlaysUptoRow.holds Try.pinned (OpenSpec.upto pagePlaysSpec)

/-- 'lapidarylaw05.PageLoads', WHERE WHAT IT READS IS OF BULK AT MOST 1048576: true; the input reads as it did. -/
def pageLoadsUptoRow : OpenClaim := { program := "ythghnhcopmmmpaa", sum := "fc380165502d97334e1769d81d05e659cdc148969eac687a265aaecb4427d614", func := "lapidary/lapidarylaw05.PageLoads", spec := "pageLoads", plainKeys := false, apart := false, narrowed := true }
def PageLoadsUptoSaid : Prop := pageLoadsUptoRow.holds Try.pinned (OpenSpec.upto pageLoadsSpec)

/-- 'lapidarylaw05.PageFills', WHERE WHAT IT READS IS OF BULK AT MOST 1048576: true; the input reads as it did. -/
def pageFillsUptoRow : OpenClaim := { program := "ythghnhcopmmmpaa", sum := "fc380165502d97334e1769d81d05e659cdc148969eac687a265aaecb4427d614", func := "lapidary/lapidarylaw05.PageFills", spec := "pageFills", plainKeys := false, apart := false, narrowed := true }
def PageFillsUptoSaid : Prop := pageFillsUptoRow.holds Try.pinned (OpenSpec.upto pageFillsSpec)

/-- 'lapidarylaw05.PageStays', WHERE WHAT IT READS IS OF BULK AT MOST 1048576: true; the input reads as it did. -/
def pageStaysUptoRow : OpenClaim := { program := "ythghnhcopmmmpaa", sum := "fc380165502d97334e1769d81d05e659cdc148969eac687a265aaecb4427d614", func := "lapidary/lapidarylaw05.PageStays", spec := "pageStays", plainKeys := false, apart := false, narrowed := true }
def PageStaysUptoSaid : Prop := pageStaysUptoRow.holds Try.pinned (OpenSpec.upto pageStaysSpec)

/-- 'lapidarylaw05.PageStamps', WHERE WHAT IT READS IS OF BULK AT MOST 1048576: true; the input reads as it did. -/
def pageStampsUptoRow : OpenClaim := { program := "ythghnhcopmmmpaa", sum := "fc380165502d97334e1769d81d05e659cdc148969eac687a265aaecb4427d614", func := "lapidary/lapidarylaw05.PageStamps", spec := "pageStamps", plainKeys := false, apart := false, narrowed := true }
def PageStampsUptoSaid : Prop := pageStampsUptoRow.holds Try.pinned (OpenSpec.upto pageStampsSpec)

/-- 'lapidarylaw05.PageTwice', WHERE WHAT IT READS IS OF BULK AT MOST 1048576: true; the input reads as it did. -/
def pageTwiceUptoRow : OpenClaim := { program := "ythghnhcopmmmpaa", sum := "fc380165502d97334e1769d81d05e659cdc148969eac687a265aaecb4427d614", func := "lapidary/lapidarylaw05.PageTwice", spec := "pageTwice", plainKeys := false, apart := false, narrowed := true }
def PageTwiceUptoSaid : Prop := pageTwiceUptoRow.holds Try.pinned (OpenSpec.upto pageTwiceSpec)

/-- 'lapidarylaw07.HeapPlays', WHERE WHAT IT READS IS OF BULK AT MOST 1048576: true; the input reads as it did. -/
def heapPlaysUptoRow : OpenClaim := { program := "ythghnhcopmmmpaa", sum := "fc380165502d97334e1769d81d05e659cdc148969eac687a265aaecb4427d614", func := "lapidary/lapidarylaw07.HeapPlays", spec := "heapPlays", plainKeys := false, apart := false, narrowed := true }
def HeapPlaysUptoSaid : Prop := heapPlaysUptoRow.holds Try.pinned (OpenSpec.upto heapPlaysSpec)

/-- 'lapidarylaw07.HeapSteady', WHERE WHAT IT READS IS OF BULK AT MOST 1048576: true; the input reads as it did. -/
def heapSteadyUptoRow : OpenClaim := { program := "ythghnhcopmmmpaa", sum := "fc380165502d97334e1769d81d05e659cdc148969eac687a265aaecb4427d614", func := "lapidary/lapidarylaw07.HeapSteady", spec := "heapSteady", plainKeys := false, apart := false, narrowed := true }
def HeapSteadyUptoSaid : Prop := heapSteadyUptoRow.holds Try.pinned (OpenSpec.upto heapSteadySpec)

/-- 'lapidarylaw07.HeapChains', WHERE WHAT IT READS IS OF BULK AT MOST 1048576: true; the input reads as it did. -/
def heapChainsUptoRow : OpenClaim := { program := "ythghnhcopmmmpaa", sum := "fc380165502d97334e1769d81d05e659cdc148969eac687a265aaecb4427d614", func := "lapidary/lapidarylaw07.HeapChains", spec := "heapChains", plainKeys := false, apart := false, narrowed := true }
def HeapChainsUptoSaid : Prop := heapChainsUptoRow.holds Try.pinned (OpenSpec.upto heapChainsSpec)

/-- 'lapidarylaw07.HeapPools', WHERE WHAT IT READS IS OF BULK AT MOST 1048576: true; the input reads as it did. -/
def heapPoolsUptoRow : OpenClaim := { program := "ythghnhcopmmmpaa", sum := "fc380165502d97334e1769d81d05e659cdc148969eac687a265aaecb4427d614", func := "lapidary/lapidarylaw07.HeapPools", spec := "heapPools", plainKeys := false, apart := false, narrowed := true }
def HeapPoolsUptoSaid : Prop := heapPoolsUptoRow.holds Try.pinned (OpenSpec.upto heapPoolsSpec)

/-- 'lapidarylaw07.HeapFree', WHERE WHAT IT READS IS OF BULK AT MOST 1048576: true; the input reads as it did. -/
def heapFreeUptoRow : OpenClaim := { program := "ythghnhcopmmmpaa", sum := "fc380165502d97334e1769d81d05e659cdc148969eac687a265aaecb4427d614", func := "lapidary/lapidarylaw07.HeapFree", spec := "heapFree", plainKeys := false, apart := false, narrowed := true }
def HeapFreeUptoSaid : Prop := heapFreeUptoRow.holds Try.pinned (OpenSpec.upto heapFreeSpec)

end Rows
end Go.Proofs.Ythghnhcopmmmpaa
