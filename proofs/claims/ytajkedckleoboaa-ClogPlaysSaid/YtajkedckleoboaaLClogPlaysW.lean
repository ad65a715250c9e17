/- ClogPlays: its walk, data first. -/
import Derived.Test.YtajkedckleoboaaLClogPlays
namespace Go.Proofs.Ytajkedckleoboaa.Clg
open Go.RowKit Go.Proofs.Ytajkedckleoboaa.Nums Go.Proofs.Ytajkedckleoboaa.Mem
theorem plays_law (w : World) (b0 : Bool) (f : Nat) (l : List O9) (A : Option Addr) (n c : Nat) (hf : f < 18446744073709551616) (hl : l.length = n) (hs : Sl w w.heap.size 3 A n c (o9_s l)) (hok : ∀ o ∈ l, o.ok) :
    Calls Try.prog 3 #[.bool b0, .int .u64 (f : Int), .slice A n c] w fun e w' => e = .returned (.bool true) ∧ Below w.heap.size w w' := plays_walk w b0 f hf l A n c hl hs hok
end Go.Proofs.Ytajkedckleoboaa.Clg
