/- Picked by program out of XCellI. -/
import Derived.Test.YtfabcnbblhadnaaDoorCellZ
import Derived.Test.YtfabcnbblhadnaaDoorCellZ
namespace Go.Proofs.YtfabcnbblhadnaaDoor.Cell
open Go.RowKit Go.Proofs.YtfabcnbblhadnaaDoor.Nums
set_option linter.unusedVariables false
set_option maxRecDepth 100000
attribute [local go_sem] guard_nil ta_nb ta_bb ta_ib ta_sb ta_ob ta_ni ta_bi ta_ii ta_si ta_oi ta_ns ta_bs ta_is ta_ss ta_os
attribute [local irreducible] wpQuiet
theorem cright_0 (i : Int) (s : ByteArray) (b : Bool) (w : World) (hU : U8 w) :
    Calls Tryd.prog 38 #[.agg #[.int .u8 0, .int .i64 i, .string s, .bool b]] w fun e w' => e = .returned (.bool (rightB 0 i s b)) ∧ Below w.heap.size w w' := by
  obtain ⟨W, hW⟩ : ∃ W, w.alloc (.cells #[.int .u8 0, .int .i64 i, .string s, .bool b] 43) = W := ⟨_, rfl⟩
  have HX : Hid (Box W w.heap.size 0 i s b) := Lib.hid (by rw [← hW]; exact box_new w 0 i s b)
  have HB : Hid (Below w.heap.size w W) := Lib.hid (by rw [← hW]; exact bel_alloc _ _)
  have HT := Lib.hid (hU.below HB.out)
  have HW := Lib.hid hW
  clear hW hU
  have x0 := HX.out.c0
  have x1 := HX.out.c1
  have x2 := HX.out.c2
  have x3 := HX.out.c3
  go_enter Tryd.func38, Tryd.ntmps38
  go_wp2_with fail
  rw [HW.out]
  refine (open_nil _ _ _ _).mono ?_
  rintro e w3 ⟨rfl, hb3⟩
  have HX3 := Lib.hid (HX.out.below hb3)
  have HB3 := Lib.hid (bel_trans HB.out hb3)
  have HT3 := Lib.hid (HT.out.below hb3)
  clear hb3 HB HT HW HX x0 x1 x2 x3
  have x0 := HX3.out.c0
  have x1 := HX3.out.c1
  have x2 := HX3.out.c2
  have x3 := HX3.out.c3
  go_wp2_with fail
  all_goals (go_ret; exact ⟨by simp [rightB, *], HB3.out⟩)
theorem cright_1 (i : Int) (s : ByteArray) (b : Bool) (w : World) (hU : U8 w) :
    Calls Tryd.prog 38 #[.agg #[.int .u8 1, .int .i64 i, .string s, .bool b]] w fun e w' => e = .returned (.bool (rightB 1 i s b)) ∧ Below w.heap.size w w' := by
  obtain ⟨W, hW⟩ : ∃ W, w.alloc (.cells #[.int .u8 1, .int .i64 i, .string s, .bool b] 43) = W := ⟨_, rfl⟩
  have HX : Hid (Box W w.heap.size 1 i s b) := Lib.hid (by rw [← hW]; exact box_new w 1 i s b)
  have HB : Hid (Below w.heap.size w W) := Lib.hid (by rw [← hW]; exact bel_alloc _ _)
  have HT := Lib.hid (hU.below HB.out)
  have HW := Lib.hid hW
  clear hW hU
  have x0 := HX.out.c0
  have x1 := HX.out.c1
  have x2 := HX.out.c2
  have x3 := HX.out.c3
  go_enter Tryd.func38, Tryd.ntmps38
  go_wp2_with fail
  rw [HW.out]
  refine (open_int _ _ _ _).mono ?_
  rintro e w3 ⟨rfl, hb3⟩
  have HX3 := Lib.hid (HX.out.below hb3)
  have HB3 := Lib.hid (bel_trans HB.out hb3)
  have HT3 := Lib.hid (HT.out.below hb3)
  clear hb3 HB HT HW HX x0 x1 x2 x3
  have x0 := HX3.out.c0
  have x1 := HX3.out.c1
  have x2 := HX3.out.c2
  have x3 := HX3.out.c3
  go_wp2_with fail
  all_goals (go_ret; exact ⟨by simp [rightB, *], HB3.out⟩)
theorem cright_3 (i : Int) (s : ByteArray) (b : Bool) (w : World) (hU : U8 w) :
    Calls Tryd.prog 38 #[.agg #[.int .u8 3, .int .i64 i, .string s, .bool b]] w fun e w' => e = .returned (.bool (rightB 3 i s b)) ∧ Below w.heap.size w w' := by
  obtain ⟨W, hW⟩ : ∃ W, w.alloc (.cells #[.int .u8 3, .int .i64 i, .string s, .bool b] 43) = W := ⟨_, rfl⟩
  have HX : Hid (Box W w.heap.size 3 i s b) := Lib.hid (by rw [← hW]; exact box_new w 3 i s b)
  have HB : Hid (Below w.heap.size w W) := Lib.hid (by rw [← hW]; exact bel_alloc _ _)
  have HT := Lib.hid (hU.below HB.out)
  have HW := Lib.hid hW
  clear hW hU
  have x0 := HX.out.c0
  have x1 := HX.out.c1
  have x2 := HX.out.c2
  have x3 := HX.out.c3
  go_enter Tryd.func38, Tryd.ntmps38
  go_wp2_with fail
  rw [HW.out]
  refine (open_bool _ _ _ _).mono ?_
  rintro e w3 ⟨rfl, hb3⟩
  have HX3 := Lib.hid (HX.out.below hb3)
  have HB3 := Lib.hid (bel_trans HB.out hb3)
  have HT3 := Lib.hid (HT.out.below hb3)
  clear hb3 HB HT HW HX x0 x1 x2 x3
  have x0 := HX3.out.c0
  have x1 := HX3.out.c1
  have x2 := HX3.out.c2
  have x3 := HX3.out.c3
  go_wp2_with fail
  by_cases hi : i = 0 <;> by_cases he : s.toList = []
  all_goals
    have q0 := fun d os => Calls.regrown_of (w := w3) (d := d) (os := os) (truth_any b _)
    replace x0 := cell_regrown x0
    replace x1 := cell_regrown x1
    replace x2 := cell_regrown x2
    replace x3 := cell_regrown x3
    refine wp_region_quiet_below (by kernel_rfl) (by kernel_rfl) ?_
    repeat (quiet_step (first | (with_reducible exact q0 _ _)))
    refine wpQuiet_nil ?_
    intro _ hw'
    obtain ⟨⟨dq, osq⟩, hw''⟩ := hw'
    subst hw''
    have HB4 := Lib.hid (bel_trans HB3.out (below_regrown w3 dq osq))
    clear x0 x1 x2 x3 q0
    generalize Go.Sort.grow (redrawn w3 dq) osq = w4 at *
    go_wp2_with fail
    all_goals (go_ret; exact ⟨by simp [rightB, *], HB4.out⟩)
theorem cright_2 (i : Int) (s : ByteArray) (b : Bool) (hs : s.size ≤ 100) (w : World) (hU : U8 w) :
    Calls Tryd.prog 38 #[.agg #[.int .u8 2, .int .i64 i, .string s, .bool b]] w fun e w' => e = .returned (.bool (rightB 2 i s b)) ∧ Below w.heap.size w w' := by
  obtain ⟨W, hW⟩ : ∃ W, w.alloc (.cells #[.int .u8 2, .int .i64 i, .string s, .bool b] 43) = W := ⟨_, rfl⟩
  have HX : Hid (Box W w.heap.size 2 i s b) := Lib.hid (by rw [← hW]; exact box_new w 2 i s b)
  have HB : Hid (Below w.heap.size w W) := Lib.hid (by rw [← hW]; exact bel_alloc _ _)
  have HT := Lib.hid (hU.below HB.out)
  have HW := Lib.hid hW
  clear hW hU
  have x0 := HX.out.c0
  have x1 := HX.out.c1
  have x2 := HX.out.c2
  have x3 := HX.out.c3
  go_enter Tryd.func38, Tryd.ntmps38
  go_wp2_with fail
  rw [HW.out]
  refine (open_str _ _ _ _).mono ?_
  rintro e w3 ⟨rfl, hb3⟩
  have HX3 := Lib.hid (HX.out.below hb3)
  have HB3 := Lib.hid (bel_trans HB.out hb3)
  have HT3 := Lib.hid (HT.out.below hb3)
  clear hb3 HB HT HW HX x0 x1 x2 x3
  have x0 := HX3.out.c0
  have x1 := HX3.out.c1
  have x2 := HX3.out.c2
  have x3 := HX3.out.c3
  go_wp2_with fail
  all_goals first
    | (go_ret; exact ⟨by simp [rightB, *], HB3.out⟩)
    | (refine (rightText_any s hs _ HT3.out).mono ?_
       rintro e w4 ⟨rfl, hb4⟩
       have HB4 := Lib.hid (bel_trans HB3.out hb4)
       clear hb4
       go_wp2_with fail
       go_ret
       exact ⟨by simp [rightB, *], HB4.out⟩)
end Go.Proofs.YtfabcnbblhadnaaDoor.Cell
