/- Picked by program out of XCellH. -/
import Derived.Test.YtfabcnbblhadnaaDoorCellF
import Derived.Test.YtfabcnbblhadnaaDoorCellF
namespace Go.Proofs.YtfabcnbblhadnaaDoor.Cell
open Go.RowKit Go.Proofs.YtfabcnbblhadnaaDoor.Nums
set_option linter.unusedVariables false
set_option maxRecDepth 100000
def rightB (k i : Int) (s : ByteArray) (b : Bool) : Bool :=
  if k = 0 then (i == 0 && s.toList.isEmpty && !b) else if k = 1 then (s.toList.isEmpty && !b) else if k = 2 then (i == 0 && !b && decide (s.size ≤ 60) && good s.data.toList) else if k = 3 then (i == 0 && s.toList.isEmpty) else false
theorem rightx_0 (i : Int) (s : ByteArray) (b : Bool) (hs : s.size ≤ maxLen) (w : World) :
    Calls Tryd.prog 30 #[.agg #[.int .u8 0, .int .i64 i, .string s, .bool b]] w fun e w' => e = .returned (.bool (rightB 0 i s b)) ∧ Below w.heap.size w w' := by
  cases hi : (i == 0) <;> cases he : s.toList.isEmpty
  all_goals
    cases b
    · obtain ⟨W, hW⟩ : ∃ W, w.alloc (.cells #[.int .u8 0, .int .i64 i, .string s, .bool false] 43) = W := ⟨_, rfl⟩
      have HX : Hid (Box W w.heap.size 0 i s false) := Lib.hid (by rw [← hW]; exact box_new w 0 i s false)
      have HB : Hid (Below w.heap.size w W) := Lib.hid (by rw [← hW]; exact bel_alloc _ _)
      have HW := Lib.hid hW
      clear hW
      go_enter Tryd.func30, Tryd.ntmps30
      go_wp2_with fail
      rw [HW.out]
      have x0 := HX.out.c0
      have x1 := HX.out.c1
      have x2 := HX.out.c2
      have x3 := HX.out.c3
      replace x0 := cell_regrown x0
      replace x1 := cell_regrown x1
      replace x2 := cell_regrown x2
      replace x3 := cell_regrown x3
      refine wp_region_quiet_below (by kernel_rfl) (by kernel_rfl) ?_
      repeat (quiet_step (first | fail))
      refine wpQuiet_nil ?_
      intro _ hw'
      obtain ⟨⟨dq, osq⟩, hw''⟩ := hw'
      subst hw''
      clear x0 x1 x2 x3 
      have hbr := below_regrown W dq osq
      have HX' := Lib.hid (HX.out.below hbr)
      have HB' := Lib.hid (bel_trans HB.out hbr)
      clear hbr
      generalize Go.Sort.grow (redrawn W dq) osq = W2 at *
      clear HX HB
      have HX := HX'
      have HB := HB'
      clear HX' HB'
      have x0 := HX.out.c0
      have x1 := HX.out.c1
      have x2 := HX.out.c2
      have x3 := HX.out.c3
      go_wp2_with fail
      go_ret
      exact ⟨by simp [rightB, hi, he], HB.out⟩
    · obtain ⟨W, hW⟩ : ∃ W, w.alloc (.cells #[.int .u8 0, .int .i64 i, .string s, .bool true] 43) = W := ⟨_, rfl⟩
      have HX : Hid (Box W w.heap.size 0 i s true) := Lib.hid (by rw [← hW]; exact box_new w 0 i s true)
      have HB : Hid (Below w.heap.size w W) := Lib.hid (by rw [← hW]; exact bel_alloc _ _)
      have HW := Lib.hid hW
      clear hW
      go_enter Tryd.func30, Tryd.ntmps30
      go_wp2_with fail
      rw [HW.out]
      have x0 := HX.out.c0
      have x1 := HX.out.c1
      have x2 := HX.out.c2
      have x3 := HX.out.c3
      replace x0 := cell_regrown x0
      replace x1 := cell_regrown x1
      replace x2 := cell_regrown x2
      replace x3 := cell_regrown x3
      refine wp_region_quiet_below (by kernel_rfl) (by kernel_rfl) ?_
      repeat (quiet_step (first | fail))
      refine wpQuiet_nil ?_
      intro _ hw'
      obtain ⟨⟨dq, osq⟩, hw''⟩ := hw'
      subst hw''
      clear x0 x1 x2 x3 
      have hbr := below_regrown W dq osq
      have HX' := Lib.hid (HX.out.below hbr)
      have HB' := Lib.hid (bel_trans HB.out hbr)
      clear hbr
      generalize Go.Sort.grow (redrawn W dq) osq = W2 at *
      clear HX HB
      have HX := HX'
      have HB := HB'
      clear HX' HB'
      have x0 := HX.out.c0
      have x1 := HX.out.c1
      have x2 := HX.out.c2
      have x3 := HX.out.c3
      go_wp2_with fail
      go_ret
      exact ⟨by simp [rightB, hi, he], HB.out⟩
theorem rightx_1 (i : Int) (s : ByteArray) (b : Bool) (hs : s.size ≤ maxLen) (w : World) :
    Calls Tryd.prog 30 #[.agg #[.int .u8 1, .int .i64 i, .string s, .bool b]] w fun e w' => e = .returned (.bool (rightB 1 i s b)) ∧ Below w.heap.size w w' := by
  cases hi : (i == 0) <;> cases he : s.toList.isEmpty
  all_goals
    cases b
    · obtain ⟨W, hW⟩ : ∃ W, w.alloc (.cells #[.int .u8 1, .int .i64 i, .string s, .bool false] 43) = W := ⟨_, rfl⟩
      have HX : Hid (Box W w.heap.size 1 i s false) := Lib.hid (by rw [← hW]; exact box_new w 1 i s false)
      have HB : Hid (Below w.heap.size w W) := Lib.hid (by rw [← hW]; exact bel_alloc _ _)
      have HW := Lib.hid hW
      clear hW
      go_enter Tryd.func30, Tryd.ntmps30
      go_wp2_with fail
      rw [HW.out]
      have x0 := HX.out.c0
      have x1 := HX.out.c1
      have x2 := HX.out.c2
      have x3 := HX.out.c3
      replace x0 := cell_regrown x0
      replace x1 := cell_regrown x1
      replace x2 := cell_regrown x2
      replace x3 := cell_regrown x3
      refine wp_region_quiet_below (by kernel_rfl) (by kernel_rfl) ?_
      repeat (quiet_step (first | fail))
      refine wpQuiet_nil ?_
      intro _ hw'
      obtain ⟨⟨dq, osq⟩, hw''⟩ := hw'
      subst hw''
      clear x0 x1 x2 x3 
      have hbr := below_regrown W dq osq
      have HX' := Lib.hid (HX.out.below hbr)
      have HB' := Lib.hid (bel_trans HB.out hbr)
      clear hbr
      generalize Go.Sort.grow (redrawn W dq) osq = W2 at *
      clear HX HB
      have HX := HX'
      have HB := HB'
      clear HX' HB'
      have x0 := HX.out.c0
      have x1 := HX.out.c1
      have x2 := HX.out.c2
      have x3 := HX.out.c3
      go_wp2_with fail
      go_ret
      exact ⟨by simp [rightB, he], HB.out⟩
    · obtain ⟨W, hW⟩ : ∃ W, w.alloc (.cells #[.int .u8 1, .int .i64 i, .string s, .bool true] 43) = W := ⟨_, rfl⟩
      have HX : Hid (Box W w.heap.size 1 i s true) := Lib.hid (by rw [← hW]; exact box_new w 1 i s true)
      have HB : Hid (Below w.heap.size w W) := Lib.hid (by rw [← hW]; exact bel_alloc _ _)
      have HW := Lib.hid hW
      clear hW
      go_enter Tryd.func30, Tryd.ntmps30
      go_wp2_with fail
      rw [HW.out]
      have x0 := HX.out.c0
      have x1 := HX.out.c1
      have x2 := HX.out.c2
      have x3 := HX.out.c3
      replace x0 := cell_regrown x0
      replace x1 := cell_regrown x1
      replace x2 := cell_regrown x2
      replace x3 := cell_regrown x3
      refine wp_region_quiet_below (by kernel_rfl) (by kernel_rfl) ?_
      repeat (quiet_step (first | fail))
      refine wpQuiet_nil ?_
      intro _ hw'
      obtain ⟨⟨dq, osq⟩, hw''⟩ := hw'
      subst hw''
      clear x0 x1 x2 x3 
      have hbr := below_regrown W dq osq
      have HX' := Lib.hid (HX.out.below hbr)
      have HB' := Lib.hid (bel_trans HB.out hbr)
      clear hbr
      generalize Go.Sort.grow (redrawn W dq) osq = W2 at *
      clear HX HB
      have HX := HX'
      have HB := HB'
      clear HX' HB'
      have x0 := HX.out.c0
      have x1 := HX.out.c1
      have x2 := HX.out.c2
      have x3 := HX.out.c3
      go_wp2_with fail
      go_ret
      exact ⟨by simp [rightB, he], HB.out⟩
theorem rightx_3 (i : Int) (s : ByteArray) (b : Bool) (hs : s.size ≤ maxLen) (w : World) :
    Calls Tryd.prog 30 #[.agg #[.int .u8 3, .int .i64 i, .string s, .bool b]] w fun e w' => e = .returned (.bool (rightB 3 i s b)) ∧ Below w.heap.size w w' := by
  cases hi : (i == 0) <;> cases he : s.toList.isEmpty
  all_goals
    cases b
    · obtain ⟨W, hW⟩ : ∃ W, w.alloc (.cells #[.int .u8 3, .int .i64 i, .string s, .bool false] 43) = W := ⟨_, rfl⟩
      have HX : Hid (Box W w.heap.size 3 i s false) := Lib.hid (by rw [← hW]; exact box_new w 3 i s false)
      have HB : Hid (Below w.heap.size w W) := Lib.hid (by rw [← hW]; exact bel_alloc _ _)
      have HW := Lib.hid hW
      clear hW
      go_enter Tryd.func30, Tryd.ntmps30
      go_wp2_with fail
      rw [HW.out]
      have x0 := HX.out.c0
      have x1 := HX.out.c1
      have x2 := HX.out.c2
      have x3 := HX.out.c3
      replace x0 := cell_regrown x0
      replace x1 := cell_regrown x1
      replace x2 := cell_regrown x2
      replace x3 := cell_regrown x3
      refine wp_region_quiet_below (by kernel_rfl) (by kernel_rfl) ?_
      repeat (quiet_step (first | fail))
      refine wpQuiet_nil ?_
      intro _ hw'
      obtain ⟨⟨dq, osq⟩, hw''⟩ := hw'
      subst hw''
      clear x0 x1 x2 x3 
      have hbr := below_regrown W dq osq
      have HX' := Lib.hid (HX.out.below hbr)
      have HB' := Lib.hid (bel_trans HB.out hbr)
      clear hbr
      generalize Go.Sort.grow (redrawn W dq) osq = W2 at *
      clear HX HB
      have HX := HX'
      have HB := HB'
      clear HX' HB'
      have x0 := HX.out.c0
      have x1 := HX.out.c1
      have x2 := HX.out.c2
      have x3 := HX.out.c3
      go_wp2_with fail
      go_ret
      exact ⟨by simp [rightB, hi, he], HB.out⟩
    · obtain ⟨W, hW⟩ : ∃ W, w.alloc (.cells #[.int .u8 3, .int .i64 i, .string s, .bool true] 43) = W := ⟨_, rfl⟩
      have HX : Hid (Box W w.heap.size 3 i s true) := Lib.hid (by rw [← hW]; exact box_new w 3 i s true)
      have HB : Hid (Below w.heap.size w W) := Lib.hid (by rw [← hW]; exact bel_alloc _ _)
      have HW := Lib.hid hW
      clear hW
      go_enter Tryd.func30, Tryd.ntmps30
      go_wp2_with fail
      rw [HW.out]
      have x0 := HX.out.c0
      have x1 := HX.out.c1
      have x2 := HX.out.c2
      have x3 := HX.out.c3
      replace x0 := cell_regrown x0
      replace x1 := cell_regrown x1
      replace x2 := cell_regrown x2
      replace x3 := cell_regrown x3
      refine wp_region_quiet_below (by kernel_rfl) (by kernel_rfl) ?_
      repeat (quiet_step (first | fail))
      refine wpQuiet_nil ?_
      intro _ hw'
      obtain ⟨⟨dq, osq⟩, hw''⟩ := hw'
      subst hw''
      clear x0 x1 x2 x3 
      have hbr := below_regrown W dq osq
      have HX' := Lib.hid (HX.out.below hbr)
      have HB' := Lib.hid (bel_trans HB.out hbr)
      clear hbr
      generalize Go.Sort.grow (redrawn W dq) osq = W2 at *
      clear HX HB
      have HX := HX'
      have HB := HB'
      clear HX' HB'
      have x0 := HX.out.c0
      have x1 := HX.out.c1
      have x2 := HX.out.c2
      have x3 := HX.out.c3
      go_wp2_with fail
      go_ret
      exact ⟨by simp [rightB, hi, he], HB.out⟩
theorem rightx_2 (i : Int) (s : ByteArray) (b : Bool) (hs : s.size ≤ maxLen) (w : World) :
    Calls Tryd.prog 30 #[.agg #[.int .u8 2, .int .i64 i, .string s, .bool b]] w fun e w' => e = .returned (.bool (rightB 2 i s b)) ∧ Below w.heap.size w w' := by
  cases hi : (i == 0)
  · cases he : s.toList.isEmpty
    all_goals
      cases b
      · obtain ⟨W, hW⟩ : ∃ W, w.alloc (.cells #[.int .u8 2, .int .i64 i, .string s, .bool false] 43) = W := ⟨_, rfl⟩
        have HX : Hid (Box W w.heap.size 2 i s false) := Lib.hid (by rw [← hW]; exact box_new w 2 i s false)
        have HB : Hid (Below w.heap.size w W) := Lib.hid (by rw [← hW]; exact bel_alloc _ _)
        have HW := Lib.hid hW
        clear hW
        go_enter Tryd.func30, Tryd.ntmps30
        go_wp2_with fail
        rw [HW.out]
        have x0 := HX.out.c0
        have x1 := HX.out.c1
        have x2 := HX.out.c2
        have x3 := HX.out.c3
        replace x0 := cell_regrown x0
        replace x1 := cell_regrown x1
        replace x2 := cell_regrown x2
        replace x3 := cell_regrown x3
        refine wp_region_quiet_below (by kernel_rfl) (by kernel_rfl) ?_
        repeat (quiet_step (first | fail))
        refine wpQuiet_nil ?_
        intro _ hw'
        obtain ⟨⟨dq, osq⟩, hw''⟩ := hw'
        subst hw''
        clear x0 x1 x2 x3 
        have hbr := below_regrown W dq osq
        have HX' := Lib.hid (HX.out.below hbr)
        have HB' := Lib.hid (bel_trans HB.out hbr)
        clear hbr
        generalize Go.Sort.grow (redrawn W dq) osq = W2 at *
        clear HX HB
        have HX := HX'
        have HB := HB'
        clear HX' HB'
        have x0 := HX.out.c0
        have x1 := HX.out.c1
        have x2 := HX.out.c2
        have x3 := HX.out.c3
        go_wp2_with fail
        go_ret
        exact ⟨by simp [rightB, hi], HB.out⟩
      · obtain ⟨W, hW⟩ : ∃ W, w.alloc (.cells #[.int .u8 2, .int .i64 i, .string s, .bool true] 43) = W := ⟨_, rfl⟩
        have HX : Hid (Box W w.heap.size 2 i s true) := Lib.hid (by rw [← hW]; exact box_new w 2 i s true)
        have HB : Hid (Below w.heap.size w W) := Lib.hid (by rw [← hW]; exact bel_alloc _ _)
        have HW := Lib.hid hW
        clear hW
        go_enter Tryd.func30, Tryd.ntmps30
        go_wp2_with fail
        rw [HW.out]
        have x0 := HX.out.c0
        have x1 := HX.out.c1
        have x2 := HX.out.c2
        have x3 := HX.out.c3
        replace x0 := cell_regrown x0
        replace x1 := cell_regrown x1
        replace x2 := cell_regrown x2
        replace x3 := cell_regrown x3
        refine wp_region_quiet_below (by kernel_rfl) (by kernel_rfl) ?_
        repeat (quiet_step (first | fail))
        refine wpQuiet_nil ?_
        intro _ hw'
        obtain ⟨⟨dq, osq⟩, hw''⟩ := hw'
        subst hw''
        clear x0 x1 x2 x3 
        have hbr := below_regrown W dq osq
        have HX' := Lib.hid (HX.out.below hbr)
        have HB' := Lib.hid (bel_trans HB.out hbr)
        clear hbr
        generalize Go.Sort.grow (redrawn W dq) osq = W2 at *
        clear HX HB
        have HX := HX'
        have HB := HB'
        clear HX' HB'
        have x0 := HX.out.c0
        have x1 := HX.out.c1
        have x2 := HX.out.c2
        have x3 := HX.out.c3
        go_wp2_with fail
        go_ret
        exact ⟨by simp [rightB, hi], HB.out⟩
  · cases b
    · by_cases hz : s.size ≤ 60
      · have hz' : (s.size : Int) ≤ 60 := by omega
        have C := Lib.hid (fun w => valid_exact s hs w)
        have HR : Hid (rightB 2 i s false = good s.data.toList) := Lib.hid (by simp [rightB, hi, hz])
        generalize good s.data.toList = gd at *
        cases he : s.toList.isEmpty
        all_goals
          obtain ⟨W, hW⟩ : ∃ W, w.alloc (.cells #[.int .u8 2, .int .i64 i, .string s, .bool false] 43) = W := ⟨_, rfl⟩
          have HX : Hid (Box W w.heap.size 2 i s false) := Lib.hid (by rw [← hW]; exact box_new w 2 i s false)
          have HB : Hid (Below w.heap.size w W) := Lib.hid (by rw [← hW]; exact bel_alloc _ _)
          have HW := Lib.hid hW
          clear hW
          go_enter Tryd.func30, Tryd.ntmps30
          go_wp2_with fail
          rw [HW.out]
          have x0 := HX.out.c0
          have x1 := HX.out.c1
          have x2 := HX.out.c2
          have x3 := HX.out.c3
          replace x0 := cell_regrown x0
          replace x1 := cell_regrown x1
          replace x2 := cell_regrown x2
          replace x3 := cell_regrown x3
          refine wp_region_quiet_below (by kernel_rfl) (by kernel_rfl) ?_
          repeat (quiet_step (first | fail))
          refine wpQuiet_nil ?_
          intro _ hw'
          obtain ⟨⟨dq, osq⟩, hw''⟩ := hw'
          subst hw''
          clear x0 x1 x2 x3 
          have hbr := below_regrown W dq osq
          have HX' := Lib.hid (HX.out.below hbr)
          have HB' := Lib.hid (bel_trans HB.out hbr)
          clear hbr
          generalize Go.Sort.grow (redrawn W dq) osq = W2 at *
          clear HX HB
          have HX := HX'
          have HB := HB'
          clear HX' HB'
          have x0 := HX.out.c0
          have x1 := HX.out.c1
          have x2 := HX.out.c2
          have x3 := HX.out.c3
          go_wp2_with fail
          refine (C.out _).mono ?_
          rintro e w' ⟨rfl, rfl⟩
          go_wp2_with fail
          go_ret
          exact ⟨by rw [HR.out]; rfl, HB.out⟩
      · have hz' : ¬ (s.size : Int) ≤ 60 := by omega
        cases he : s.toList.isEmpty
        all_goals
          obtain ⟨W, hW⟩ : ∃ W, w.alloc (.cells #[.int .u8 2, .int .i64 i, .string s, .bool false] 43) = W := ⟨_, rfl⟩
          have HX : Hid (Box W w.heap.size 2 i s false) := Lib.hid (by rw [← hW]; exact box_new w 2 i s false)
          have HB : Hid (Below w.heap.size w W) := Lib.hid (by rw [← hW]; exact bel_alloc _ _)
          have HW := Lib.hid hW
          clear hW
          go_enter Tryd.func30, Tryd.ntmps30
          go_wp2_with fail
          rw [HW.out]
          have x0 := HX.out.c0
          have x1 := HX.out.c1
          have x2 := HX.out.c2
          have x3 := HX.out.c3
          replace x0 := cell_regrown x0
          replace x1 := cell_regrown x1
          replace x2 := cell_regrown x2
          replace x3 := cell_regrown x3
          refine wp_region_quiet_below (by kernel_rfl) (by kernel_rfl) ?_
          repeat (quiet_step (first | fail))
          refine wpQuiet_nil ?_
          intro _ hw'
          obtain ⟨⟨dq, osq⟩, hw''⟩ := hw'
          subst hw''
          clear x0 x1 x2 x3 
          have hbr := below_regrown W dq osq
          have HX' := Lib.hid (HX.out.below hbr)
          have HB' := Lib.hid (bel_trans HB.out hbr)
          clear hbr
          generalize Go.Sort.grow (redrawn W dq) osq = W2 at *
          clear HX HB
          have HX := HX'
          have HB := HB'
          clear HX' HB'
          have x0 := HX.out.c0
          have x1 := HX.out.c1
          have x2 := HX.out.c2
          have x3 := HX.out.c3
          go_wp2_with fail
          go_ret
          exact ⟨by simp [rightB, hi, hz], HB.out⟩
    · cases he : s.toList.isEmpty
      all_goals
        obtain ⟨W, hW⟩ : ∃ W, w.alloc (.cells #[.int .u8 2, .int .i64 i, .string s, .bool true] 43) = W := ⟨_, rfl⟩
        have HX : Hid (Box W w.heap.size 2 i s true) := Lib.hid (by rw [← hW]; exact box_new w 2 i s true)
        have HB : Hid (Below w.heap.size w W) := Lib.hid (by rw [← hW]; exact bel_alloc _ _)
        have HW := Lib.hid hW
        clear hW
        go_enter Tryd.func30, Tryd.ntmps30
        go_wp2_with fail
        rw [HW.out]
        have x0 := HX.out.c0
        have x1 := HX.out.c1
        have x2 := HX.out.c2
        have x3 := HX.out.c3
        replace x0 := cell_regrown x0
        replace x1 := cell_regrown x1
        replace x2 := cell_regrown x2
        replace x3 := cell_regrown x3
        refine wp_region_quiet_below (by kernel_rfl) (by kernel_rfl) ?_
        repeat (quiet_step (first | fail))
        refine wpQuiet_nil ?_
        intro _ hw'
        obtain ⟨⟨dq, osq⟩, hw''⟩ := hw'
        subst hw''
        clear x0 x1 x2 x3 
        have hbr := below_regrown W dq osq
        have HX' := Lib.hid (HX.out.below hbr)
        have HB' := Lib.hid (bel_trans HB.out hbr)
        clear hbr
        generalize Go.Sort.grow (redrawn W dq) osq = W2 at *
        clear HX HB
        have HX := HX'
        have HB := HB'
        clear HX' HB'
        have x0 := HX.out.c0
        have x1 := HX.out.c1
        have x2 := HX.out.c2
        have x3 := HX.out.c3
        go_wp2_with fail
        go_ret
        exact ⟨by simp [rightB, hi], HB.out⟩
theorem rightx_odd (k i : Int) (s : ByteArray) (b : Bool) (h0 : (k == 0) = false) (h1 : (k == 1) = false) (h2 : (k == 2) = false) (h3 : (k == 3) = false) (w : World) :
    Calls Tryd.prog 30 #[.agg #[.int .u8 k, .int .i64 i, .string s, .bool b]] w fun e w' => e = .returned (.bool (rightB k i s b)) ∧ Below w.heap.size w w' := by
  have HR : ∀ b, Hid (rightB k i s b = false) := fun b => Lib.hid (by
    have n0 : k ≠ 0 := by simpa using h0
    have n1 : k ≠ 1 := by simpa using h1
    have n2 : k ≠ 2 := by simpa using h2
    have n3 : k ≠ 3 := by simpa using h3
    simp [rightB, n0, n1, n2, n3])
  cases hi : (i == 0) <;> cases he : s.toList.isEmpty
  all_goals
    cases b
    · have HRb := HR false
      clear HR
      obtain ⟨W, hW⟩ : ∃ W, w.alloc (.cells #[.int .u8 k, .int .i64 i, .string s, .bool false] 43) = W := ⟨_, rfl⟩
      have HX : Hid (Box W w.heap.size k i s false) := Lib.hid (by rw [← hW]; exact box_new w k i s false)
      have HB : Hid (Below w.heap.size w W) := Lib.hid (by rw [← hW]; exact bel_alloc _ _)
      have HW := Lib.hid hW
      clear hW
      go_enter Tryd.func30, Tryd.ntmps30
      go_wp2_with fail
      rw [HW.out]
      have x0 := HX.out.c0
      have x1 := HX.out.c1
      have x2 := HX.out.c2
      have x3 := HX.out.c3
      replace x0 := cell_regrown x0
      replace x1 := cell_regrown x1
      replace x2 := cell_regrown x2
      replace x3 := cell_regrown x3
      refine wp_region_quiet_below (by kernel_rfl) (by kernel_rfl) ?_
      repeat (quiet_step (first | fail))
      refine wpQuiet_nil ?_
      intro _ hw'
      obtain ⟨⟨dq, osq⟩, hw''⟩ := hw'
      subst hw''
      clear x0 x1 x2 x3 
      have hbr := below_regrown W dq osq
      have HX' := Lib.hid (HX.out.below hbr)
      have HB' := Lib.hid (bel_trans HB.out hbr)
      clear hbr
      generalize Go.Sort.grow (redrawn W dq) osq = W2 at *
      clear HX HB
      have HX := HX'
      have HB := HB'
      clear HX' HB'
      have x0 := HX.out.c0
      have x1 := HX.out.c1
      have x2 := HX.out.c2
      have x3 := HX.out.c3
      go_wp2_with fail
      go_ret
      exact ⟨by rw [HRb.out]; rfl, HB.out⟩
    · have HRb := HR true
      clear HR
      obtain ⟨W, hW⟩ : ∃ W, w.alloc (.cells #[.int .u8 k, .int .i64 i, .string s, .bool true] 43) = W := ⟨_, rfl⟩
      have HX : Hid (Box W w.heap.size k i s true) := Lib.hid (by rw [← hW]; exact box_new w k i s true)
      have HB : Hid (Below w.heap.size w W) := Lib.hid (by rw [← hW]; exact bel_alloc _ _)
      have HW := Lib.hid hW
      clear hW
      go_enter Tryd.func30, Tryd.ntmps30
      go_wp2_with fail
      rw [HW.out]
      have x0 := HX.out.c0
      have x1 := HX.out.c1
      have x2 := HX.out.c2
      have x3 := HX.out.c3
      replace x0 := cell_regrown x0
      replace x1 := cell_regrown x1
      replace x2 := cell_regrown x2
      replace x3 := cell_regrown x3
      refine wp_region_quiet_below (by kernel_rfl) (by kernel_rfl) ?_
      repeat (quiet_step (first | fail))
      refine wpQuiet_nil ?_
      intro _ hw'
      obtain ⟨⟨dq, osq⟩, hw''⟩ := hw'
      subst hw''
      clear x0 x1 x2 x3 
      have hbr := below_regrown W dq osq
      have HX' := Lib.hid (HX.out.below hbr)
      have HB' := Lib.hid (bel_trans HB.out hbr)
      clear hbr
      generalize Go.Sort.grow (redrawn W dq) osq = W2 at *
      clear HX HB
      have HX := HX'
      have HB := HB'
      clear HX' HB'
      have x0 := HX.out.c0
      have x1 := HX.out.c1
      have x2 := HX.out.c2
      have x3 := HX.out.c3
      go_wp2_with fail
      go_ret
      exact ⟨by rw [HRb.out]; rfl, HB.out⟩
theorem right_exact (k i : Int) (s : ByteArray) (b : Bool) (hs : s.size ≤ maxLen) (w : World) :
    Calls Tryd.prog 30 #[.agg #[.int .u8 k, .int .i64 i, .string s, .bool b]] w fun e w' => e = .returned (.bool (rightB k i s b)) ∧ Below w.heap.size w w' := by
  by_cases h0 : k = 0
  · subst h0; exact rightx_0 i s b hs w
  by_cases h1 : k = 1
  · subst h1; exact rightx_1 i s b hs w
  by_cases h2 : k = 2
  · subst h2; exact rightx_2 i s b hs w
  by_cases h3 : k = 3
  · subst h3; exact rightx_3 i s b hs w
  exact rightx_odd k i s b (by simpa using h0) (by simpa using h1) (by simpa using h2) (by simpa using h3) w
end Go.Proofs.YtfabcnbblhadnaaDoor.Cell
