/- The examples that each law of layer 1 asks first. -/
import Derived.Test.YtdfgpaoehikdpaaDoorRead
namespace Go.Proofs.YtdfgpaoehikdpaaDoor.Calc
open Go.RowKit Go.Proofs.YtdfgpaoehikdpaaDoor.Nums
set_option linter.unusedVariables false

theorem awake_any (w : World) :
    Calls Tryd.prog 4 #[] w fun e w' => e = .returned (.bool true) ∧ Below w.heap.size w w' := by
  have c1 := fun w => add_out 9223372036854775807 1 (by decide) (by decide) (by decide) w
  have c2 := fun w => div_any (-7) 2 (by decide) (by decide) w
  have c3 := fun w => mod_any (-7) 2 (by decide) (by decide) w
  rw [show divN (-7) 2 = -3 by decide, show divE (-7) 2 = 0 by decide] at c2
  rw [show modN (-7) 2 = -1 by decide, show modE 2 = 0 by decide] at c3
  have H1 := Lib.hid c1
  have H2 := Lib.hid c2
  have H3 := Lib.hid c3
  clear c1 c2 c3
  go_enter Tryd.func4, Tryd.ntmps4
  go_wp2_with (first | (go_at_call 9; refine (H1.out _).mono ?_; rintro e w' ⟨rfl, rfl⟩) | (go_at_call 10; refine (H2.out _).mono ?_; rintro e w' ⟨rfl, rfl⟩) | (go_at_call 11; refine (H3.out _).mono ?_; rintro e w' ⟨rfl, rfl⟩))
  refine (read_any _ (by decide) _).mono ?_
  rintro e w' ⟨rfl, hb⟩
  go_wp2_with fail
  go_ret
  exact ⟨rfl, hb⟩

end Go.Proofs.YtdfgpaoehikdpaaDoor.Calc
