/- page.New. -/
import Derived.Test.YtbpgjpopmohbmaaPageD
namespace Go.Proofs.Ytbpgjpopmohbmaa.Mem
open Go.RowKit Go.Proofs.Ytbpgjpopmohbmaa.Nums
set_option linter.unusedVariables false
set_option linter.unusedSimpArgs false
set_option maxRecDepth 100000
theorem zero_pg : Try.zeroCells113 = (u8s (List.replicate 512 0)).toArray := by kernel_rfl
/-- a new page's bytes -/
def X0 : List UInt8 := lay (List.replicate 512 0) 2 (nb 512 2)
theorem new_pg (w : World) :
    Calls Try.prog 15 #[] w fun e w' => e = .returned (.pointer (some ⟨w.heap.size, 0, none⟩)) ∧ Pg w' w.heap.size X0 ∧ Below w.heap.size w w' := by
  have HZ : Hid (Pg (w.alloc (.cells Try.zeroCells113 113)) w.heap.size (List.replicate 512 0)) := Lib.hid ⟨by rw [zero_pg]; exact Blk.new w _ _, List.length_replicate⟩
  go_enter Try.func15, Try.ntmps15
  go_wp2_with fail
  refine (setBegin_pg w.heap.size 512 _ _ HZ.out (by omega)).mono ?_
  rintro e w1 ⟨rfl, hp, ho⟩
  have HB := Lib.hid ((bel_alloc w (.cells Try.zeroCells113 113)).trans (ho.below (by rw [size_alloc]; omega) (Nat.le_refl _)))
  have HP := Lib.hid hp
  clear hp ho
  go_wp2_with fail
  go_ret
  exact ⟨rfl, HP.out, HB.out⟩
end Go.Proofs.Ytbpgjpopmohbmaa.Mem
