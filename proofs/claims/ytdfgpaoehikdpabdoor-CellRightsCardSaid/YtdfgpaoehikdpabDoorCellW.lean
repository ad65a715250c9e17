/- The document's check of a value: a yes or a no; what a yes says. -/
import Derived.Test.YtdfgpaoehikdpabDoorCellV
namespace Go.Proofs.YtdfgpaoehikdpabDoor.Cell
open Go.RowKit Go.Proofs.YtdfgpaoehikdpabDoor.Nums
set_option linter.unusedVariables false
set_option maxRecDepth 100000

/-- a right value, but for what its text says -/
def RightV (k i : Int) (s : ByteArray) (b : Bool) : Prop :=
  (k = 0 ∧ i = 0 ∧ s = ⟨#[]⟩ ∧ b = false) ∨ (k = 1 ∧ s = ⟨#[]⟩ ∧ b = false) ∨ (k = 2 ∧ i = 0 ∧ b = false ∧ s.size ≤ 60) ∨ (k = 3 ∧ i = 0 ∧ s = ⟨#[]⟩)
def RightP (k i : Int) (s : ByteArray) (b : Bool) (w : World) (e : Ending) (w' : World) : Prop := ∃ r : Bool, e = .returned (.bool r) ∧ Below w.heap.size w w' ∧ (r = true → RightV k i s b)
theorem right_no {k i : Int} {s : ByteArray} {b : Bool} {w w' : World} (h : Below w.heap.size w w') : RightP k i s b w (.returned (.bool false)) w' := ⟨false, rfl, h, fun e => by cases e⟩
theorem right_yes {k i : Int} {s : ByteArray} {b : Bool} {w w' : World} (h : Below w.heap.size w w') (r : Bool) (hv : RightV k i s b) : RightP k i s b w (.returned (.bool r)) w' := ⟨r, rfl, h, fun _ => hv⟩
theorem empty_of {s : ByteArray} (h : s.toList.isEmpty = true) : s = ⟨#[]⟩ := by
  rw [ByteArray.toList_eq] at h
  apply ByteArray.ext
  apply Array.ext'
  simpa using h

theorem right_0 (i : Int) (s : ByteArray) (b : Bool) (hs : s.size ≤ maxLen) (w : World) :
    Calls Tryd.prog 11 #[.agg #[.int .u8 0, .int .i64 i, .string s, .bool b]] w (RightP 0 i s b w) := by
  cases hi : (i == 0) <;> cases he : s.toList.isEmpty
  all_goals
    cases b
    · obtain ⟨W, hW⟩ : ∃ W, w.alloc (.cells #[.int .u8 0, .int .i64 i, .string s, .bool false] 24) = W := ⟨_, rfl⟩
      have HX : Hid (Box W w.heap.size 0 i s false) := Lib.hid (by rw [← hW]; exact box_new w 0 i s false)
      have HB : Hid (Below w.heap.size w W) := Lib.hid (by rw [← hW]; exact bel_alloc _ _)
      have HW := Lib.hid hW
      clear hW
      go_enter Tryd.func11, Tryd.ntmps11
      go_wp2_with fail
      rw [HW.out]
      have x0 := HX.out.c0
      have x1 := HX.out.c1
      have x2 := HX.out.c2
      have x3 := HX.out.c3
      replace x0 := cell_regrown x0
      replace x1 := cell_regrown x1
      replace x2 := cell_regrown x2
      replace x3 := cell_regrown x3
      refine wp_region_quiet_below (by kernel_rfl) (by kernel_rfl) ?_
      repeat (quiet_step (first | fail))
      refine wpQuiet_nil ?_
      intro _ hw'
      obtain ⟨⟨dq, osq⟩, hw''⟩ := hw'
      subst hw''
      clear x0 x1 x2 x3 
      have hbr := below_regrown W dq osq
      have HX' := Lib.hid (HX.out.below hbr)
      have HB' := Lib.hid (bel_trans HB.out hbr)
      clear hbr
      generalize Go.Sort.grow (redrawn W dq) osq = W2 at *
      clear HX HB
      have HX := HX'
      have HB := HB'
      clear HX' HB'
      have x0 := HX.out.c0
      have x1 := HX.out.c1
      have x2 := HX.out.c2
      have x3 := HX.out.c3
      go_wp2_with fail
      go_ret
      first | exact right_no HB.out | exact right_yes HB.out _ (.inl ⟨rfl, by simpa using hi, empty_of he, rfl⟩)
    · obtain ⟨W, hW⟩ : ∃ W, w.alloc (.cells #[.int .u8 0, .int .i64 i, .string s, .bool true] 24) = W := ⟨_, rfl⟩
      have HX : Hid (Box W w.heap.size 0 i s true) := Lib.hid (by rw [← hW]; exact box_new w 0 i s true)
      have HB : Hid (Below w.heap.size w W) := Lib.hid (by rw [← hW]; exact bel_alloc _ _)
      have HW := Lib.hid hW
      clear hW
      go_enter Tryd.func11, Tryd.ntmps11
      go_wp2_with fail
      rw [HW.out]
      have x0 := HX.out.c0
      have x1 := HX.out.c1
      have x2 := HX.out.c2
      have x3 := HX.out.c3
      replace x0 := cell_regrown x0
      replace x1 := cell_regrown x1
      replace x2 := cell_regrown x2
      replace x3 := cell_regrown x3
      refine wp_region_quiet_below (by kernel_rfl) (by kernel_rfl) ?_
      repeat (quiet_step (first | fail))
      refine wpQuiet_nil ?_
      intro _ hw'
      obtain ⟨⟨dq, osq⟩, hw''⟩ := hw'
      subst hw''
      clear x0 x1 x2 x3 
      have hbr := below_regrown W dq osq
      have HX' := Lib.hid (HX.out.below hbr)
      have HB' := Lib.hid (bel_trans HB.out hbr)
      clear hbr
      generalize Go.Sort.grow (redrawn W dq) osq = W2 at *
      clear HX HB
      have HX := HX'
      have HB := HB'
      clear HX' HB'
      have x0 := HX.out.c0
      have x1 := HX.out.c1
      have x2 := HX.out.c2
      have x3 := HX.out.c3
      go_wp2_with fail
      go_ret
      first | exact right_no HB.out | exact right_yes HB.out _ (.inl ⟨rfl, by simpa using hi, empty_of he, rfl⟩)
theorem right_1 (i : Int) (s : ByteArray) (b : Bool) (hs : s.size ≤ maxLen) (w : World) :
    Calls Tryd.prog 11 #[.agg #[.int .u8 1, .int .i64 i, .string s, .bool b]] w (RightP 1 i s b w) := by
  cases hi : (i == 0) <;> cases he : s.toList.isEmpty
  all_goals
    cases b
    · obtain ⟨W, hW⟩ : ∃ W, w.alloc (.cells #[.int .u8 1, .int .i64 i, .string s, .bool false] 24) = W := ⟨_, rfl⟩
      have HX : Hid (Box W w.heap.size 1 i s false) := Lib.hid (by rw [← hW]; exact box_new w 1 i s false)
      have HB : Hid (Below w.heap.size w W) := Lib.hid (by rw [← hW]; exact bel_alloc _ _)
      have HW := Lib.hid hW
      clear hW
      go_enter Tryd.func11, Tryd.ntmps11
      go_wp2_with fail
      rw [HW.out]
      have x0 := HX.out.c0
      have x1 := HX.out.c1
      have x2 := HX.out.c2
      have x3 := HX.out.c3
      replace x0 := cell_regrown x0
      replace x1 := cell_regrown x1
      replace x2 := cell_regrown x2
      replace x3 := cell_regrown x3
      refine wp_region_quiet_below (by kernel_rfl) (by kernel_rfl) ?_
      repeat (quiet_step (first | fail))
      refine wpQuiet_nil ?_
      intro _ hw'
      obtain ⟨⟨dq, osq⟩, hw''⟩ := hw'
      subst hw''
      clear x0 x1 x2 x3 
      have hbr := below_regrown W dq osq
      have HX' := Lib.hid (HX.out.below hbr)
      have HB' := Lib.hid (bel_trans HB.out hbr)
      clear hbr
      generalize Go.Sort.grow (redrawn W dq) osq = W2 at *
      clear HX HB
      have HX := HX'
      have HB := HB'
      clear HX' HB'
      have x0 := HX.out.c0
      have x1 := HX.out.c1
      have x2 := HX.out.c2
      have x3 := HX.out.c3
      go_wp2_with fail
      go_ret
      first | exact right_no HB.out | exact right_yes HB.out _ (.inr (.inl ⟨rfl, empty_of he, rfl⟩))
    · obtain ⟨W, hW⟩ : ∃ W, w.alloc (.cells #[.int .u8 1, .int .i64 i, .string s, .bool true] 24) = W := ⟨_, rfl⟩
      have HX : Hid (Box W w.heap.size 1 i s true) := Lib.hid (by rw [← hW]; exact box_new w 1 i s true)
      have HB : Hid (Below w.heap.size w W) := Lib.hid (by rw [← hW]; exact bel_alloc _ _)
      have HW := Lib.hid hW
      clear hW
      go_enter Tryd.func11, Tryd.ntmps11
      go_wp2_with fail
      rw [HW.out]
      have x0 := HX.out.c0
      have x1 := HX.out.c1
      have x2 := HX.out.c2
      have x3 := HX.out.c3
      replace x0 := cell_regrown x0
      replace x1 := cell_regrown x1
      replace x2 := cell_regrown x2
      replace x3 := cell_regrown x3
      refine wp_region_quiet_below (by kernel_rfl) (by kernel_rfl) ?_
      repeat (quiet_step (first | fail))
      refine wpQuiet_nil ?_
      intro _ hw'
      obtain ⟨⟨dq, osq⟩, hw''⟩ := hw'
      subst hw''
      clear x0 x1 x2 x3 
      have hbr := below_regrown W dq osq
      have HX' := Lib.hid (HX.out.below hbr)
      have HB' := Lib.hid (bel_trans HB.out hbr)
      clear hbr
      generalize Go.Sort.grow (redrawn W dq) osq = W2 at *
      clear HX HB
      have HX := HX'
      have HB := HB'
      clear HX' HB'
      have x0 := HX.out.c0
      have x1 := HX.out.c1
      have x2 := HX.out.c2
      have x3 := HX.out.c3
      go_wp2_with fail
      go_ret
      first | exact right_no HB.out | exact right_yes HB.out _ (.inr (.inl ⟨rfl, empty_of he, rfl⟩))
theorem right_3 (i : Int) (s : ByteArray) (b : Bool) (hs : s.size ≤ maxLen) (w : World) :
    Calls Tryd.prog 11 #[.agg #[.int .u8 3, .int .i64 i, .string s, .bool b]] w (RightP 3 i s b w) := by
  cases hi : (i == 0) <;> cases he : s.toList.isEmpty
  all_goals
    cases b
    · obtain ⟨W, hW⟩ : ∃ W, w.alloc (.cells #[.int .u8 3, .int .i64 i, .string s, .bool false] 24) = W := ⟨_, rfl⟩
      have HX : Hid (Box W w.heap.size 3 i s false) := Lib.hid (by rw [← hW]; exact box_new w 3 i s false)
      have HB : Hid (Below w.heap.size w W) := Lib.hid (by rw [← hW]; exact bel_alloc _ _)
      have HW := Lib.hid hW
      clear hW
      go_enter Tryd.func11, Tryd.ntmps11
      go_wp2_with fail
      rw [HW.out]
      have x0 := HX.out.c0
      have x1 := HX.out.c1
      have x2 := HX.out.c2
      have x3 := HX.out.c3
      replace x0 := cell_regrown x0
      replace x1 := cell_regrown x1
      replace x2 := cell_regrown x2
      replace x3 := cell_regrown x3
      refine wp_region_quiet_below (by kernel_rfl) (by kernel_rfl) ?_
      repeat (quiet_step (first | fail))
      refine wpQuiet_nil ?_
      intro _ hw'
      obtain ⟨⟨dq, osq⟩, hw''⟩ := hw'
      subst hw''
      clear x0 x1 x2 x3 
      have hbr := below_regrown W dq osq
      have HX' := Lib.hid (HX.out.below hbr)
      have HB' := Lib.hid (bel_trans HB.out hbr)
      clear hbr
      generalize Go.Sort.grow (redrawn W dq) osq = W2 at *
      clear HX HB
      have HX := HX'
      have HB := HB'
      clear HX' HB'
      have x0 := HX.out.c0
      have x1 := HX.out.c1
      have x2 := HX.out.c2
      have x3 := HX.out.c3
      go_wp2_with fail
      go_ret
      first | exact right_no HB.out | exact right_yes HB.out _ (.inr (.inr (.inr ⟨rfl, by simpa using hi, empty_of he⟩)))
    · obtain ⟨W, hW⟩ : ∃ W, w.alloc (.cells #[.int .u8 3, .int .i64 i, .string s, .bool true] 24) = W := ⟨_, rfl⟩
      have HX : Hid (Box W w.heap.size 3 i s true) := Lib.hid (by rw [← hW]; exact box_new w 3 i s true)
      have HB : Hid (Below w.heap.size w W) := Lib.hid (by rw [← hW]; exact bel_alloc _ _)
      have HW := Lib.hid hW
      clear hW
      go_enter Tryd.func11, Tryd.ntmps11
      go_wp2_with fail
      rw [HW.out]
      have x0 := HX.out.c0
      have x1 := HX.out.c1
      have x2 := HX.out.c2
      have x3 := HX.out.c3
      replace x0 := cell_regrown x0
      replace x1 := cell_regrown x1
      replace x2 := cell_regrown x2
      replace x3 := cell_regrown x3
      refine wp_region_quiet_below (by kernel_rfl) (by kernel_rfl) ?_
      repeat (quiet_step (first | fail))
      refine wpQuiet_nil ?_
      intro _ hw'
      obtain ⟨⟨dq, osq⟩, hw''⟩ := hw'
      subst hw''
      clear x0 x1 x2 x3 
      have hbr := below_regrown W dq osq
      have HX' := Lib.hid (HX.out.below hbr)
      have HB' := Lib.hid (bel_trans HB.out hbr)
      clear hbr
      generalize Go.Sort.grow (redrawn W dq) osq = W2 at *
      clear HX HB
      have HX := HX'
      have HB := HB'
      clear HX' HB'
      have x0 := HX.out.c0
      have x1 := HX.out.c1
      have x2 := HX.out.c2
      have x3 := HX.out.c3
      go_wp2_with fail
      go_ret
      first | exact right_no HB.out | exact right_yes HB.out _ (.inr (.inr (.inr ⟨rfl, by simpa using hi, empty_of he⟩)))
theorem right_2 (i : Int) (s : ByteArray) (b : Bool) (hs : s.size ≤ maxLen) (w : World) :
    Calls Tryd.prog 11 #[.agg #[.int .u8 2, .int .i64 i, .string s, .bool b]] w (RightP 2 i s b w) := by
  cases hi : (i == 0)
  · cases he : s.toList.isEmpty
    all_goals
      cases b
      · obtain ⟨W, hW⟩ : ∃ W, w.alloc (.cells #[.int .u8 2, .int .i64 i, .string s, .bool false] 24) = W := ⟨_, rfl⟩
        have HX : Hid (Box W w.heap.size 2 i s false) := Lib.hid (by rw [← hW]; exact box_new w 2 i s false)
        have HB : Hid (Below w.heap.size w W) := Lib.hid (by rw [← hW]; exact bel_alloc _ _)
        have HW := Lib.hid hW
        clear hW
        go_enter Tryd.func11, Tryd.ntmps11
        go_wp2_with fail
        rw [HW.out]
        have x0 := HX.out.c0
        have x1 := HX.out.c1
        have x2 := HX.out.c2
        have x3 := HX.out.c3
        replace x0 := cell_regrown x0
        replace x1 := cell_regrown x1
        replace x2 := cell_regrown x2
        replace x3 := cell_regrown x3
        refine wp_region_quiet_below (by kernel_rfl) (by kernel_rfl) ?_
        repeat (quiet_step (first | fail))
        refine wpQuiet_nil ?_
        intro _ hw'
        obtain ⟨⟨dq, osq⟩, hw''⟩ := hw'
        subst hw''
        clear x0 x1 x2 x3 
        have hbr := below_regrown W dq osq
        have HX' := Lib.hid (HX.out.below hbr)
        have HB' := Lib.hid (bel_trans HB.out hbr)
        clear hbr
        generalize Go.Sort.grow (redrawn W dq) osq = W2 at *
        clear HX HB
        have HX := HX'
        have HB := HB'
        clear HX' HB'
        have x0 := HX.out.c0
        have x1 := HX.out.c1
        have x2 := HX.out.c2
        have x3 := HX.out.c3
        go_wp2_with fail
        go_ret
        exact right_no HB.out
      · obtain ⟨W, hW⟩ : ∃ W, w.alloc (.cells #[.int .u8 2, .int .i64 i, .string s, .bool true] 24) = W := ⟨_, rfl⟩
        have HX : Hid (Box W w.heap.size 2 i s true) := Lib.hid (by rw [← hW]; exact box_new w 2 i s true)
        have HB : Hid (Below w.heap.size w W) := Lib.hid (by rw [← hW]; exact bel_alloc _ _)
        have HW := Lib.hid hW
        clear hW
        go_enter Tryd.func11, Tryd.ntmps11
        go_wp2_with fail
        rw [HW.out]
        have x0 := HX.out.c0
        have x1 := HX.out.c1
        have x2 := HX.out.c2
        have x3 := HX.out.c3
        replace x0 := cell_regrown x0
        replace x1 := cell_regrown x1
        replace x2 := cell_regrown x2
        replace x3 := cell_regrown x3
        refine wp_region_quiet_below (by kernel_rfl) (by kernel_rfl) ?_
        repeat (quiet_step (first | fail))
        refine wpQuiet_nil ?_
        intro _ hw'
        obtain ⟨⟨dq, osq⟩, hw''⟩ := hw'
        subst hw''
        clear x0 x1 x2 x3 
        have hbr := below_regrown W dq osq
        have HX' := Lib.hid (HX.out.below hbr)
        have HB' := Lib.hid (bel_trans HB.out hbr)
        clear hbr
        generalize Go.Sort.grow (redrawn W dq) osq = W2 at *
        clear HX HB
        have HX := HX'
        have HB := HB'
        clear HX' HB'
        have x0 := HX.out.c0
        have x1 := HX.out.c1
        have x2 := HX.out.c2
        have x3 := HX.out.c3
        go_wp2_with fail
        go_ret
        exact right_no HB.out
  · cases b
    · have hi' : i = 0 := by simpa using hi
      by_cases hz : s.size ≤ 60
      · have hz' : (s.size : Int) ≤ 60 := by omega
        have HV : Hid (RightV 2 i s false) := Lib.hid (.inr (.inr (.inl ⟨rfl, hi', rfl, hz⟩)))
        clear hi'
        have C := Lib.hid (fun w => valid_any s hs w)
        cases he : s.toList.isEmpty
        all_goals
          obtain ⟨W, hW⟩ : ∃ W, w.alloc (.cells #[.int .u8 2, .int .i64 i, .string s, .bool false] 24) = W := ⟨_, rfl⟩
          have HX : Hid (Box W w.heap.size 2 i s false) := Lib.hid (by rw [← hW]; exact box_new w 2 i s false)
          have HB : Hid (Below w.heap.size w W) := Lib.hid (by rw [← hW]; exact bel_alloc _ _)
          have HW := Lib.hid hW
          clear hW
          go_enter Tryd.func11, Tryd.ntmps11
          go_wp2_with fail
          rw [HW.out]
          have x0 := HX.out.c0
          have x1 := HX.out.c1
          have x2 := HX.out.c2
          have x3 := HX.out.c3
          replace x0 := cell_regrown x0
          replace x1 := cell_regrown x1
          replace x2 := cell_regrown x2
          replace x3 := cell_regrown x3
          refine wp_region_quiet_below (by kernel_rfl) (by kernel_rfl) ?_
          repeat (quiet_step (first | fail))
          refine wpQuiet_nil ?_
          intro _ hw'
          obtain ⟨⟨dq, osq⟩, hw''⟩ := hw'
          subst hw''
          clear x0 x1 x2 x3 
          have hbr := below_regrown W dq osq
          have HX' := Lib.hid (HX.out.below hbr)
          have HB' := Lib.hid (bel_trans HB.out hbr)
          clear hbr
          generalize Go.Sort.grow (redrawn W dq) osq = W2 at *
          clear HX HB
          have HX := HX'
          have HB := HB'
          clear HX' HB'
          have x0 := HX.out.c0
          have x1 := HX.out.c1
          have x2 := HX.out.c2
          have x3 := HX.out.c3
          go_wp2_with fail
          refine (C.out _).mono ?_
          rintro e w' ⟨r, rfl, rfl⟩
          go_wp2_with fail
          go_ret
          exact right_yes HB.out _ HV.out
      · have hz' : ¬ (s.size : Int) ≤ 60 := by omega
        clear hi'
        cases he : s.toList.isEmpty
        all_goals
          obtain ⟨W, hW⟩ : ∃ W, w.alloc (.cells #[.int .u8 2, .int .i64 i, .string s, .bool false] 24) = W := ⟨_, rfl⟩
          have HX : Hid (Box W w.heap.size 2 i s false) := Lib.hid (by rw [← hW]; exact box_new w 2 i s false)
          have HB : Hid (Below w.heap.size w W) := Lib.hid (by rw [← hW]; exact bel_alloc _ _)
          have HW := Lib.hid hW
          clear hW
          go_enter Tryd.func11, Tryd.ntmps11
          go_wp2_with fail
          rw [HW.out]
          have x0 := HX.out.c0
          have x1 := HX.out.c1
          have x2 := HX.out.c2
          have x3 := HX.out.c3
          replace x0 := cell_regrown x0
          replace x1 := cell_regrown x1
          replace x2 := cell_regrown x2
          replace x3 := cell_regrown x3
          refine wp_region_quiet_below (by kernel_rfl) (by kernel_rfl) ?_
          repeat (quiet_step (first | fail))
          refine wpQuiet_nil ?_
          intro _ hw'
          obtain ⟨⟨dq, osq⟩, hw''⟩ := hw'
          subst hw''
          clear x0 x1 x2 x3 
          have hbr := below_regrown W dq osq
          have HX' := Lib.hid (HX.out.below hbr)
          have HB' := Lib.hid (bel_trans HB.out hbr)
          clear hbr
          generalize Go.Sort.grow (redrawn W dq) osq = W2 at *
          clear HX HB
          have HX := HX'
          have HB := HB'
          clear HX' HB'
          have x0 := HX.out.c0
          have x1 := HX.out.c1
          have x2 := HX.out.c2
          have x3 := HX.out.c3
          go_wp2_with fail
          go_ret
          exact right_no HB.out
    · cases he : s.toList.isEmpty
      all_goals
        obtain ⟨W, hW⟩ : ∃ W, w.alloc (.cells #[.int .u8 2, .int .i64 i, .string s, .bool true] 24) = W := ⟨_, rfl⟩
        have HX : Hid (Box W w.heap.size 2 i s true) := Lib.hid (by rw [← hW]; exact box_new w 2 i s true)
        have HB : Hid (Below w.heap.size w W) := Lib.hid (by rw [← hW]; exact bel_alloc _ _)
        have HW := Lib.hid hW
        clear hW
        go_enter Tryd.func11, Tryd.ntmps11
        go_wp2_with fail
        rw [HW.out]
        have x0 := HX.out.c0
        have x1 := HX.out.c1
        have x2 := HX.out.c2
        have x3 := HX.out.c3
        replace x0 := cell_regrown x0
        replace x1 := cell_regrown x1
        replace x2 := cell_regrown x2
        replace x3 := cell_regrown x3
        refine wp_region_quiet_below (by kernel_rfl) (by kernel_rfl) ?_
        repeat (quiet_step (first | fail))
        refine wpQuiet_nil ?_
        intro _ hw'
        obtain ⟨⟨dq, osq⟩, hw''⟩ := hw'
        subst hw''
        clear x0 x1 x2 x3 
        have hbr := below_regrown W dq osq
        have HX' := Lib.hid (HX.out.below hbr)
        have HB' := Lib.hid (bel_trans HB.out hbr)
        clear hbr
        generalize Go.Sort.grow (redrawn W dq) osq = W2 at *
        clear HX HB
        have HX := HX'
        have HB := HB'
        clear HX' HB'
        have x0 := HX.out.c0
        have x1 := HX.out.c1
        have x2 := HX.out.c2
        have x3 := HX.out.c3
        go_wp2_with fail
        go_ret
        exact right_no HB.out
theorem right_odd (k i : Int) (s : ByteArray) (b : Bool) (h0 : (k == 0) = false) (h1 : (k == 1) = false) (h2 : (k == 2) = false) (h3 : (k == 3) = false) (w : World) :
    Calls Tryd.prog 11 #[.agg #[.int .u8 k, .int .i64 i, .string s, .bool b]] w (RightP k i s b w) := by
  cases hi : (i == 0) <;> cases he : s.toList.isEmpty
  all_goals
    cases b
    · obtain ⟨W, hW⟩ : ∃ W, w.alloc (.cells #[.int .u8 k, .int .i64 i, .string s, .bool false] 24) = W := ⟨_, rfl⟩
      have HX : Hid (Box W w.heap.size k i s false) := Lib.hid (by rw [← hW]; exact box_new w k i s false)
      have HB : Hid (Below w.heap.size w W) := Lib.hid (by rw [← hW]; exact bel_alloc _ _)
      have HW := Lib.hid hW
      clear hW
      go_enter Tryd.func11, Tryd.ntmps11
      go_wp2_with fail
      rw [HW.out]
      have x0 := HX.out.c0
      have x1 := HX.out.c1
      have x2 := HX.out.c2
      have x3 := HX.out.c3
      replace x0 := cell_regrown x0
      replace x1 := cell_regrown x1
      replace x2 := cell_regrown x2
      replace x3 := cell_regrown x3
      refine wp_region_quiet_below (by kernel_rfl) (by kernel_rfl) ?_
      repeat (quiet_step (first | fail))
      refine wpQuiet_nil ?_
      intro _ hw'
      obtain ⟨⟨dq, osq⟩, hw''⟩ := hw'
      subst hw''
      clear x0 x1 x2 x3 
      have hbr := below_regrown W dq osq
      have HX' := Lib.hid (HX.out.below hbr)
      have HB' := Lib.hid (bel_trans HB.out hbr)
      clear hbr
      generalize Go.Sort.grow (redrawn W dq) osq = W2 at *
      clear HX HB
      have HX := HX'
      have HB := HB'
      clear HX' HB'
      have x0 := HX.out.c0
      have x1 := HX.out.c1
      have x2 := HX.out.c2
      have x3 := HX.out.c3
      go_wp2_with fail
      go_ret
      exact right_no HB.out
    · obtain ⟨W, hW⟩ : ∃ W, w.alloc (.cells #[.int .u8 k, .int .i64 i, .string s, .bool true] 24) = W := ⟨_, rfl⟩
      have HX : Hid (Box W w.heap.size k i s true) := Lib.hid (by rw [← hW]; exact box_new w k i s true)
      have HB : Hid (Below w.heap.size w W) := Lib.hid (by rw [← hW]; exact bel_alloc _ _)
      have HW := Lib.hid hW
      clear hW
      go_enter Tryd.func11, Tryd.ntmps11
      go_wp2_with fail
      rw [HW.out]
      have x0 := HX.out.c0
      have x1 := HX.out.c1
      have x2 := HX.out.c2
      have x3 := HX.out.c3
      replace x0 := cell_regrown x0
      replace x1 := cell_regrown x1
      replace x2 := cell_regrown x2
      replace x3 := cell_regrown x3
      refine wp_region_quiet_below (by kernel_rfl) (by kernel_rfl) ?_
      repeat (quiet_step (first | fail))
      refine wpQuiet_nil ?_
      intro _ hw'
      obtain ⟨⟨dq, osq⟩, hw''⟩ := hw'
      subst hw''
      clear x0 x1 x2 x3 
      have hbr := below_regrown W dq osq
      have HX' := Lib.hid (HX.out.below hbr)
      have HB' := Lib.hid (bel_trans HB.out hbr)
      clear hbr
      generalize Go.Sort.grow (redrawn W dq) osq = W2 at *
      clear HX HB
      have HX := HX'
      have HB := HB'
      clear HX' HB'
      have x0 := HX.out.c0
      have x1 := HX.out.c1
      have x2 := HX.out.c2
      have x3 := HX.out.c3
      go_wp2_with fail
      go_ret
      exact right_no HB.out
theorem right_any (k i : Int) (s : ByteArray) (b : Bool) (hs : s.size ≤ maxLen) (w : World) :
    Calls Tryd.prog 11 #[.agg #[.int .u8 k, .int .i64 i, .string s, .bool b]] w (RightP k i s b w) := by
  by_cases h0 : k = 0
  · subst h0; exact right_0 i s b hs w
  by_cases h1 : k = 1
  · subst h1; exact right_1 i s b hs w
  by_cases h2 : k = 2
  · subst h2; exact right_2 i s b hs w
  by_cases h3 : k = 3
  · subst h3; exact right_3 i s b hs w
  exact right_odd k i s b (by simpa using h0) (by simpa using h1) (by simpa using h2) (by simpa using h3) w
end Go.Proofs.YtdfgpaoehikdpabDoor.Cell
