/- Picked by program out of XCellJ. -/
import Derived.Test.YtfabcnbblhadnaaDoorCellI
import Derived.Test.YtfabcnbblhadnaaDoorCellI
namespace Go.Proofs.YtfabcnbblhadnaaDoor.Cell
open Go.RowKit Go.Proofs.YtfabcnbblhadnaaDoor.Nums
set_option linter.unusedVariables false
set_option maxRecDepth 100000
attribute [local go_sem] guard_nil ta_nb ta_bb ta_ib ta_sb ta_ob ta_ni ta_bi ta_ii ta_si ta_oi ta_ns ta_bs ta_is ta_ss ta_os
attribute [local irreducible] wpQuiet
theorem cright_odd (k i : Int) (s : ByteArray) (b : Bool) (h0 : (k == 0) = false) (h1 : (k == 1) = false) (h2 : (k == 2) = false) (h3 : (k == 3) = false) (w : World) (hU : U8 w) :
    Calls Tryd.prog 38 #[.agg #[.int .u8 k, .int .i64 i, .string s, .bool b]] w fun e w' => e = .returned (.bool (rightB k i s b)) ∧ Below w.heap.size w w' := by
  have HR : Hid (rightB k i s b = false) := Lib.hid (by
    have n0 : k ≠ 0 := by simpa using h0
    have n1 : k ≠ 1 := by simpa using h1
    have n2 : k ≠ 2 := by simpa using h2
    have n3 : k ≠ 3 := by simpa using h3
    simp [rightB, n0, n1, n2, n3])
  obtain ⟨W, hW⟩ : ∃ W, w.alloc (.cells #[.int .u8 k, .int .i64 i, .string s, .bool b] 43) = W := ⟨_, rfl⟩
  have HX : Hid (Box W w.heap.size k i s b) := Lib.hid (by rw [← hW]; exact box_new w k i s b)
  have HB : Hid (Below w.heap.size w W) := Lib.hid (by rw [← hW]; exact bel_alloc _ _)
  have HT := Lib.hid (hU.below HB.out)
  have HW := Lib.hid hW
  clear hW hU
  have x0 := HX.out.c0
  have x1 := HX.out.c1
  have x2 := HX.out.c2
  have x3 := HX.out.c3
  go_enter Tryd.func38, Tryd.ntmps38
  go_wp2_with fail
  rw [HW.out]
  refine (open_odd _ _ _ _ h0 h1 h2 h3 _).mono ?_
  rintro e w3 ⟨rfl, hb3⟩
  have HX3 := Lib.hid (HX.out.below hb3)
  have HB3 := Lib.hid (bel_trans HB.out hb3)
  have HT3 := Lib.hid (HT.out.below hb3)
  clear hb3 HB HT HW HX x0 x1 x2 x3
  have x0 := HX3.out.c0
  have x1 := HX3.out.c1
  have x2 := HX3.out.c2
  have x3 := HX3.out.c3
  go_wp2_with fail
  go_ret
  exact ⟨by rw [HR.out]; rfl, HB3.out⟩
theorem cright_any (k i : Int) (s : ByteArray) (b : Bool) (hs : s.size ≤ 100) (w : World) (hU : U8 w) :
    Calls Tryd.prog 38 #[.agg #[.int .u8 k, .int .i64 i, .string s, .bool b]] w fun e w' => e = .returned (.bool (rightB k i s b)) ∧ Below w.heap.size w w' := by
  by_cases h0 : k = 0
  · subst h0; exact cright_0 i s b w hU
  by_cases h1 : k = 1
  · subst h1; exact cright_1 i s b w hU
  by_cases h2 : k = 2
  · subst h2; exact cright_2 i s b hs w hU
  by_cases h3 : k = 3
  · subst h3; exact cright_3 i s b w hU
  exact cright_odd k i s b (by simpa using h0) (by simpa using h1) (by simpa using h2) (by simpa using h3) w hU
end Go.Proofs.YtfabcnbblhadnaaDoor.Cell
