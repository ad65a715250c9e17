/- A number's digits: calc.Dec and the document's. (Own texts of the layer calc, for a dump that lacks the rest of it.) -/
import Derived.Test.YtdfgpaoehikdpacDoorDigits
import Derived.Test.YtdfgpaoehikdpacDoorCellX
import Derived.WalkSpells
import Derived.WalkLawsBesides
import Derived.Lib.AppendIntMem
import Derived.Lib.LaidU8
import Derived.WalkSmall
namespace Go.Proofs.YtdfgpaoehikdpacDoor.Calc
open Go.RowKit Go.Proofs.YtdfgpaoehikdpacDoor.Nums
set_option linter.unusedVariables false

theorem dec_any (n : Int) (hn : In64 n) (w : World) (hT : Go.Lib.TabIs Tryd.prog w "internal/strconv.uint64pow10" .u64 Go.Lib.pow10Tab) :
    Calls Tryd.prog 19 #[.int .i64 n] w fun e w' => e = .returned (.string ⟨(Go.Lib.itoa n).toArray⟩) ∧ Below w.heap.size w w' := by
  have c := Tryd.strconv_FormatInt_10 n hn.1 hn.2 w hT
  have H := Lib.hid c
  clear c hT
  go_enter Tryd.func19, Tryd.ntmps19
  go_wp2_with fail
  refine H.out.mono ?_
  rintro e w' ⟨rfl, k, os, rfl⟩
  have hb := Go.Lib.below_grow w.heap.size w (Nat.le_refl _) k os
  generalize Go.Sort.grow (w.drewN k) os = w1 at *
  go_wp2_with fail
  go_ret
  exact ⟨rfl, hb⟩

end Go.Proofs.YtdfgpaoehikdpacDoor.Calc
