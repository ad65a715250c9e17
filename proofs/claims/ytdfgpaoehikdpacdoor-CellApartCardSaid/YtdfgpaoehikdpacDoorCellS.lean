/- The document's answers for two values: less, the same, compared; truths joined and turned. -/
import Derived.Test.YtdfgpaoehikdpacDoorCellR
namespace Go.Proofs.YtdfgpaoehikdpacDoor.Cell
open Go.RowKit Go.Proofs.YtdfgpaoehikdpacDoor.Nums
set_option linter.unusedVariables false
set_option maxRecDepth 100000

def lessR (k1 i1 : Int) (s1 : ByteArray) (b1 : Bool) (k2 i2 : Int) (s2 : ByteArray) (b2 : Bool) : Bool :=
  if placeR k1 b1 = placeR k2 b2 then (if k1 = 1 then decide (i1 < i2) else if k1 = 2 then Go.Op.bytesLess s1.toList s2.toList else false) else decide (placeR k1 b1 < placeR k2 b2)
theorem lessR_any (k1 i1 : Int) (s1 : ByteArray) (b1 : Bool) (k2 i2 : Int) (s2 : ByteArray) (b2 : Bool) (w : World) :
    Calls Tryd.prog 21 #[.agg #[.int .u8 k1, .int .i64 i1, .string s1, .bool b1], .agg #[.int .u8 k2, .int .i64 i2, .string s2, .bool b2]] w fun e w' => e = .returned (.bool (lessR k1 i1 s1 b1 k2 i2 s2 b2)) ∧ Below w.heap.size w w' := by
  obtain ⟨p1, hp1⟩ : ∃ p, placeR k1 b1 = p := ⟨_, rfl⟩
  obtain ⟨p2, hp2⟩ : ∃ p, placeR k2 b2 = p := ⟨_, rfl⟩
  have P1 := Lib.hid (fun w => place_any k1 i1 s1 b1 w)
  have P2 := Lib.hid (fun w => place_any k2 i2 s2 b2 w)
  rw [hp1] at P1
  rw [hp2] at P2
  by_cases hp : p1 = p2
  · have hq : (p1 == p2) = true := by simpa using hp
    by_cases h1 : k1 = 1
    · subst h1
      cases gi : decide (i1 < i2)
      · have HL : Hid (lessR 1 i1 s1 b1 k2 i2 s2 b2 = false) := Lib.hid (by unfold lessR; rw [if_pos (by rw [hp1, hp2, hp])]; rw [if_pos rfl, gi])
        obtain ⟨W, hW⟩ : ∃ W, (w.alloc (.cells #[.int .u8 1, .int .i64 i1, .string s1, .bool b1] 24)).alloc (.cells #[.int .u8 k2, .int .i64 i2, .string s2, .bool b2] 24) = W := ⟨_, rfl⟩
        have HX : Hid (Box W w.heap.size 1 i1 s1 b1) := Lib.hid (by rw [← hW]; exact box_up (box_new w 1 i1 s1 b1) _)
        have HY : Hid (Box W (w.heap.size + 1) k2 i2 s2 b2) := Lib.hid (by rw [← hW]; have := box_new (w.alloc (.cells #[.int .u8 1, .int .i64 i1, .string s1, .bool b1] 24)) k2 i2 s2 b2; rw [size_alloc] at this; exact this)
        have HB : Hid (Below w.heap.size w W) := Lib.hid (by rw [← hW]; exact (bel_alloc _ _).alloc (by rw [size_alloc]; omega) _)
        have HW := Lib.hid hW
        clear hW
        clear hp hp1 hp2
        go_enter Tryd.func21, Tryd.ntmps21
        go_wp2_with fail
        rw [HW.out]
        have x0 := HX.out.c0
        have x1 := HX.out.c1
        have x2 := HX.out.c2
        have x3 := HX.out.c3
        have y0 := HY.out.c0
        have y1 := HY.out.c1
        have y2 := HY.out.c2
        have y3 := HY.out.c3
        replace x0 := cell_regrown x0
        replace x1 := cell_regrown x1
        replace x2 := cell_regrown x2
        replace x3 := cell_regrown x3
        replace y0 := cell_regrown y0
        replace y1 := cell_regrown y1
        replace y2 := cell_regrown y2
        replace y3 := cell_regrown y3
        have pA := fun d os => Calls.regrown_of (w := W) (d := d) (os := os) (P1.out _)
        have pB := fun d os => Calls.regrown_of (w := W) (d := d) (os := os) (P2.out _)
        refine wp_region_quiet_below (by kernel_rfl) (by kernel_rfl) ?_
        repeat (quiet_step (first | (with_reducible exact pA _ _) | (with_reducible exact pB _ _)))
        refine wpQuiet_nil ?_
        intro _ hw'
        obtain ⟨⟨dq, osq⟩, hw''⟩ := hw'
        subst hw''
        clear x0 x1 x2 x3 y0 y1 y2 y3 pA pB
        have hbr := below_regrown W dq osq
        have HX' := Lib.hid (HX.out.below hbr)
        have HY' := Lib.hid (HY.out.below hbr)
        have HB' := Lib.hid (bel_trans HB.out hbr)
        clear hbr
        generalize Go.Sort.grow (redrawn W dq) osq = W2 at *
        clear HX HB HY
        have HX := HX'
        have HB := HB'
        have HY := HY'
        clear HX' HB' HY'
        have x0 := HX.out.c0
        have x1 := HX.out.c1
        have x2 := HX.out.c2
        have x3 := HX.out.c3
        have y0 := HY.out.c0
        have y1 := HY.out.c1
        have y2 := HY.out.c2
        have y3 := HY.out.c3
        go_wp2
        go_ret
        exact ⟨by rw [HL.out]; rfl, HB.out⟩
      · have HL : Hid (lessR 1 i1 s1 b1 k2 i2 s2 b2 = true) := Lib.hid (by unfold lessR; rw [if_pos (by rw [hp1, hp2, hp])]; rw [if_pos rfl, gi])
        obtain ⟨W, hW⟩ : ∃ W, (w.alloc (.cells #[.int .u8 1, .int .i64 i1, .string s1, .bool b1] 24)).alloc (.cells #[.int .u8 k2, .int .i64 i2, .string s2, .bool b2] 24) = W := ⟨_, rfl⟩
        have HX : Hid (Box W w.heap.size 1 i1 s1 b1) := Lib.hid (by rw [← hW]; exact box_up (box_new w 1 i1 s1 b1) _)
        have HY : Hid (Box W (w.heap.size + 1) k2 i2 s2 b2) := Lib.hid (by rw [← hW]; have := box_new (w.alloc (.cells #[.int .u8 1, .int .i64 i1, .string s1, .bool b1] 24)) k2 i2 s2 b2; rw [size_alloc] at this; exact this)
        have HB : Hid (Below w.heap.size w W) := Lib.hid (by rw [← hW]; exact (bel_alloc _ _).alloc (by rw [size_alloc]; omega) _)
        have HW := Lib.hid hW
        clear hW
        clear hp hp1 hp2
        go_enter Tryd.func21, Tryd.ntmps21
        go_wp2_with fail
        rw [HW.out]
        have x0 := HX.out.c0
        have x1 := HX.out.c1
        have x2 := HX.out.c2
        have x3 := HX.out.c3
        have y0 := HY.out.c0
        have y1 := HY.out.c1
        have y2 := HY.out.c2
        have y3 := HY.out.c3
        replace x0 := cell_regrown x0
        replace x1 := cell_regrown x1
        replace x2 := cell_regrown x2
        replace x3 := cell_regrown x3
        replace y0 := cell_regrown y0
        replace y1 := cell_regrown y1
        replace y2 := cell_regrown y2
        replace y3 := cell_regrown y3
        have pA := fun d os => Calls.regrown_of (w := W) (d := d) (os := os) (P1.out _)
        have pB := fun d os => Calls.regrown_of (w := W) (d := d) (os := os) (P2.out _)
        refine wp_region_quiet_below (by kernel_rfl) (by kernel_rfl) ?_
        repeat (quiet_step (first | (with_reducible exact pA _ _) | (with_reducible exact pB _ _)))
        refine wpQuiet_nil ?_
        intro _ hw'
        obtain ⟨⟨dq, osq⟩, hw''⟩ := hw'
        subst hw''
        clear x0 x1 x2 x3 y0 y1 y2 y3 pA pB
        have hbr := below_regrown W dq osq
        have HX' := Lib.hid (HX.out.below hbr)
        have HY' := Lib.hid (HY.out.below hbr)
        have HB' := Lib.hid (bel_trans HB.out hbr)
        clear hbr
        generalize Go.Sort.grow (redrawn W dq) osq = W2 at *
        clear HX HB HY
        have HX := HX'
        have HB := HB'
        have HY := HY'
        clear HX' HB' HY'
        have x0 := HX.out.c0
        have x1 := HX.out.c1
        have x2 := HX.out.c2
        have x3 := HX.out.c3
        have y0 := HY.out.c0
        have y1 := HY.out.c1
        have y2 := HY.out.c2
        have y3 := HY.out.c3
        go_wp2
        go_ret
        exact ⟨by rw [HL.out]; rfl, HB.out⟩
    by_cases h2 : k1 = 2
    · subst h2
      cases gi : Go.Op.bytesLess s1.toList s2.toList
      · have HL : Hid (lessR 2 i1 s1 b1 k2 i2 s2 b2 = false) := Lib.hid (by unfold lessR; rw [if_pos (by rw [hp1, hp2, hp])]; rw [if_neg (by decide), if_pos rfl, gi])
        obtain ⟨W, hW⟩ : ∃ W, (w.alloc (.cells #[.int .u8 2, .int .i64 i1, .string s1, .bool b1] 24)).alloc (.cells #[.int .u8 k2, .int .i64 i2, .string s2, .bool b2] 24) = W := ⟨_, rfl⟩
        have HX : Hid (Box W w.heap.size 2 i1 s1 b1) := Lib.hid (by rw [← hW]; exact box_up (box_new w 2 i1 s1 b1) _)
        have HY : Hid (Box W (w.heap.size + 1) k2 i2 s2 b2) := Lib.hid (by rw [← hW]; have := box_new (w.alloc (.cells #[.int .u8 2, .int .i64 i1, .string s1, .bool b1] 24)) k2 i2 s2 b2; rw [size_alloc] at this; exact this)
        have HB : Hid (Below w.heap.size w W) := Lib.hid (by rw [← hW]; exact (bel_alloc _ _).alloc (by rw [size_alloc]; omega) _)
        have HW := Lib.hid hW
        clear hW
        clear hp hp1 hp2
        go_enter Tryd.func21, Tryd.ntmps21
        go_wp2_with fail
        rw [HW.out]
        have x0 := HX.out.c0
        have x1 := HX.out.c1
        have x2 := HX.out.c2
        have x3 := HX.out.c3
        have y0 := HY.out.c0
        have y1 := HY.out.c1
        have y2 := HY.out.c2
        have y3 := HY.out.c3
        replace x0 := cell_regrown x0
        replace x1 := cell_regrown x1
        replace x2 := cell_regrown x2
        replace x3 := cell_regrown x3
        replace y0 := cell_regrown y0
        replace y1 := cell_regrown y1
        replace y2 := cell_regrown y2
        replace y3 := cell_regrown y3
        have pA := fun d os => Calls.regrown_of (w := W) (d := d) (os := os) (P1.out _)
        have pB := fun d os => Calls.regrown_of (w := W) (d := d) (os := os) (P2.out _)
        refine wp_region_quiet_below (by kernel_rfl) (by kernel_rfl) ?_
        repeat (quiet_step (first | (with_reducible exact pA _ _) | (with_reducible exact pB _ _)))
        refine wpQuiet_nil ?_
        intro _ hw'
        obtain ⟨⟨dq, osq⟩, hw''⟩ := hw'
        subst hw''
        clear x0 x1 x2 x3 y0 y1 y2 y3 pA pB
        have hbr := below_regrown W dq osq
        have HX' := Lib.hid (HX.out.below hbr)
        have HY' := Lib.hid (HY.out.below hbr)
        have HB' := Lib.hid (bel_trans HB.out hbr)
        clear hbr
        generalize Go.Sort.grow (redrawn W dq) osq = W2 at *
        clear HX HB HY
        have HX := HX'
        have HB := HB'
        have HY := HY'
        clear HX' HB' HY'
        have x0 := HX.out.c0
        have x1 := HX.out.c1
        have x2 := HX.out.c2
        have x3 := HX.out.c3
        have y0 := HY.out.c0
        have y1 := HY.out.c1
        have y2 := HY.out.c2
        have y3 := HY.out.c3
        go_wp2
        go_ret
        exact ⟨by rw [HL.out]; rfl, HB.out⟩
      · have HL : Hid (lessR 2 i1 s1 b1 k2 i2 s2 b2 = true) := Lib.hid (by unfold lessR; rw [if_pos (by rw [hp1, hp2, hp])]; rw [if_neg (by decide), if_pos rfl, gi])
        obtain ⟨W, hW⟩ : ∃ W, (w.alloc (.cells #[.int .u8 2, .int .i64 i1, .string s1, .bool b1] 24)).alloc (.cells #[.int .u8 k2, .int .i64 i2, .string s2, .bool b2] 24) = W := ⟨_, rfl⟩
        have HX : Hid (Box W w.heap.size 2 i1 s1 b1) := Lib.hid (by rw [← hW]; exact box_up (box_new w 2 i1 s1 b1) _)
        have HY : Hid (Box W (w.heap.size + 1) k2 i2 s2 b2) := Lib.hid (by rw [← hW]; have := box_new (w.alloc (.cells #[.int .u8 2, .int .i64 i1, .string s1, .bool b1] 24)) k2 i2 s2 b2; rw [size_alloc] at this; exact this)
        have HB : Hid (Below w.heap.size w W) := Lib.hid (by rw [← hW]; exact (bel_alloc _ _).alloc (by rw [size_alloc]; omega) _)
        have HW := Lib.hid hW
        clear hW
        clear hp hp1 hp2
        go_enter Tryd.func21, Tryd.ntmps21
        go_wp2_with fail
        rw [HW.out]
        have x0 := HX.out.c0
        have x1 := HX.out.c1
        have x2 := HX.out.c2
        have x3 := HX.out.c3
        have y0 := HY.out.c0
        have y1 := HY.out.c1
        have y2 := HY.out.c2
        have y3 := HY.out.c3
        replace x0 := cell_regrown x0
        replace x1 := cell_regrown x1
        replace x2 := cell_regrown x2
        replace x3 := cell_regrown x3
        replace y0 := cell_regrown y0
        replace y1 := cell_regrown y1
        replace y2 := cell_regrown y2
        replace y3 := cell_regrown y3
        have pA := fun d os => Calls.regrown_of (w := W) (d := d) (os := os) (P1.out _)
        have pB := fun d os => Calls.regrown_of (w := W) (d := d) (os := os) (P2.out _)
        refine wp_region_quiet_below (by kernel_rfl) (by kernel_rfl) ?_
        repeat (quiet_step (first | (with_reducible exact pA _ _) | (with_reducible exact pB _ _)))
        refine wpQuiet_nil ?_
        intro _ hw'
        obtain ⟨⟨dq, osq⟩, hw''⟩ := hw'
        subst hw''
        clear x0 x1 x2 x3 y0 y1 y2 y3 pA pB
        have hbr := below_regrown W dq osq
        have HX' := Lib.hid (HX.out.below hbr)
        have HY' := Lib.hid (HY.out.below hbr)
        have HB' := Lib.hid (bel_trans HB.out hbr)
        clear hbr
        generalize Go.Sort.grow (redrawn W dq) osq = W2 at *
        clear HX HB HY
        have HX := HX'
        have HB := HB'
        have HY := HY'
        clear HX' HB' HY'
        have x0 := HX.out.c0
        have x1 := HX.out.c1
        have x2 := HX.out.c2
        have x3 := HX.out.c3
        have y0 := HY.out.c0
        have y1 := HY.out.c1
        have y2 := HY.out.c2
        have y3 := HY.out.c3
        go_wp2
        go_ret
        exact ⟨by rw [HL.out]; rfl, HB.out⟩
    have g1 : (k1 == 1) = false := by simpa using h1
    have g2 : (k1 == 2) = false := by simpa using h2
    have HL : Hid (lessR k1 i1 s1 b1 k2 i2 s2 b2 = false) := Lib.hid (by unfold lessR; rw [if_pos (by rw [hp1, hp2, hp])]; rw [if_neg h1, if_neg h2])
    clear h1 h2
    obtain ⟨W, hW⟩ : ∃ W, (w.alloc (.cells #[.int .u8 k1, .int .i64 i1, .string s1, .bool b1] 24)).alloc (.cells #[.int .u8 k2, .int .i64 i2, .string s2, .bool b2] 24) = W := ⟨_, rfl⟩
    have HX : Hid (Box W w.heap.size k1 i1 s1 b1) := Lib.hid (by rw [← hW]; exact box_up (box_new w k1 i1 s1 b1) _)
    have HY : Hid (Box W (w.heap.size + 1) k2 i2 s2 b2) := Lib.hid (by rw [← hW]; have := box_new (w.alloc (.cells #[.int .u8 k1, .int .i64 i1, .string s1, .bool b1] 24)) k2 i2 s2 b2; rw [size_alloc] at this; exact this)
    have HB : Hid (Below w.heap.size w W) := Lib.hid (by rw [← hW]; exact (bel_alloc _ _).alloc (by rw [size_alloc]; omega) _)
    have HW := Lib.hid hW
    clear hW
    clear hp hp1 hp2
    go_enter Tryd.func21, Tryd.ntmps21
    go_wp2_with fail
    rw [HW.out]
    have x0 := HX.out.c0
    have x1 := HX.out.c1
    have x2 := HX.out.c2
    have x3 := HX.out.c3
    have y0 := HY.out.c0
    have y1 := HY.out.c1
    have y2 := HY.out.c2
    have y3 := HY.out.c3
    replace x0 := cell_regrown x0
    replace x1 := cell_regrown x1
    replace x2 := cell_regrown x2
    replace x3 := cell_regrown x3
    replace y0 := cell_regrown y0
    replace y1 := cell_regrown y1
    replace y2 := cell_regrown y2
    replace y3 := cell_regrown y3
    have pA := fun d os => Calls.regrown_of (w := W) (d := d) (os := os) (P1.out _)
    have pB := fun d os => Calls.regrown_of (w := W) (d := d) (os := os) (P2.out _)
    refine wp_region_quiet_below (by kernel_rfl) (by kernel_rfl) ?_
    repeat (quiet_step (first | (with_reducible exact pA _ _) | (with_reducible exact pB _ _)))
    refine wpQuiet_nil ?_
    intro _ hw'
    obtain ⟨⟨dq, osq⟩, hw''⟩ := hw'
    subst hw''
    clear x0 x1 x2 x3 y0 y1 y2 y3 pA pB
    have hbr := below_regrown W dq osq
    have HX' := Lib.hid (HX.out.below hbr)
    have HY' := Lib.hid (HY.out.below hbr)
    have HB' := Lib.hid (bel_trans HB.out hbr)
    clear hbr
    generalize Go.Sort.grow (redrawn W dq) osq = W2 at *
    clear HX HB HY
    have HX := HX'
    have HB := HB'
    have HY := HY'
    clear HX' HB' HY'
    have x0 := HX.out.c0
    have x1 := HX.out.c1
    have x2 := HX.out.c2
    have x3 := HX.out.c3
    have y0 := HY.out.c0
    have y1 := HY.out.c1
    have y2 := HY.out.c2
    have y3 := HY.out.c3
    go_wp2
    go_ret
    exact ⟨by rw [HL.out]; rfl, HB.out⟩
  · have hq : (p1 == p2) = false := by simpa using hp
    have HL : Hid (lessR k1 i1 s1 b1 k2 i2 s2 b2 = decide (p1 < p2)) := Lib.hid (by unfold lessR; rw [hp1, hp2, if_neg hp])
    obtain ⟨W, hW⟩ : ∃ W, (w.alloc (.cells #[.int .u8 k1, .int .i64 i1, .string s1, .bool b1] 24)).alloc (.cells #[.int .u8 k2, .int .i64 i2, .string s2, .bool b2] 24) = W := ⟨_, rfl⟩
    have HX : Hid (Box W w.heap.size k1 i1 s1 b1) := Lib.hid (by rw [← hW]; exact box_up (box_new w k1 i1 s1 b1) _)
    have HY : Hid (Box W (w.heap.size + 1) k2 i2 s2 b2) := Lib.hid (by rw [← hW]; have := box_new (w.alloc (.cells #[.int .u8 k1, .int .i64 i1, .string s1, .bool b1] 24)) k2 i2 s2 b2; rw [size_alloc] at this; exact this)
    have HB : Hid (Below w.heap.size w W) := Lib.hid (by rw [← hW]; exact (bel_alloc _ _).alloc (by rw [size_alloc]; omega) _)
    have HW := Lib.hid hW
    clear hW
    clear hp hp1 hp2
    go_enter Tryd.func21, Tryd.ntmps21
    go_wp2_with fail
    rw [HW.out]
    have x0 := HX.out.c0
    have x1 := HX.out.c1
    have x2 := HX.out.c2
    have x3 := HX.out.c3
    have y0 := HY.out.c0
    have y1 := HY.out.c1
    have y2 := HY.out.c2
    have y3 := HY.out.c3
    replace x0 := cell_regrown x0
    replace x1 := cell_regrown x1
    replace x2 := cell_regrown x2
    replace x3 := cell_regrown x3
    replace y0 := cell_regrown y0
    replace y1 := cell_regrown y1
    replace y2 := cell_regrown y2
    replace y3 := cell_regrown y3
    have pA := fun d os => Calls.regrown_of (w := W) (d := d) (os := os) (P1.out _)
    have pB := fun d os => Calls.regrown_of (w := W) (d := d) (os := os) (P2.out _)
    refine wp_region_quiet_below (by kernel_rfl) (by kernel_rfl) ?_
    repeat (quiet_step (first | (with_reducible exact pA _ _) | (with_reducible exact pB _ _)))
    refine wpQuiet_nil ?_
    intro _ hw'
    obtain ⟨⟨dq, osq⟩, hw''⟩ := hw'
    subst hw''
    clear x0 x1 x2 x3 y0 y1 y2 y3 pA pB
    have hbr := below_regrown W dq osq
    have HX' := Lib.hid (HX.out.below hbr)
    have HY' := Lib.hid (HY.out.below hbr)
    have HB' := Lib.hid (bel_trans HB.out hbr)
    clear hbr
    generalize Go.Sort.grow (redrawn W dq) osq = W2 at *
    clear HX HB HY
    have HX := HX'
    have HB := HB'
    have HY := HY'
    clear HX' HB' HY'
    go_wp2_with fail
    have x0 := HX.out.c0
    have x1 := HX.out.c1
    have x2 := HX.out.c2
    have x3 := HX.out.c3
    have y0 := HY.out.c0
    have y1 := HY.out.c1
    have y2 := HY.out.c2
    have y3 := HY.out.c3
    replace x0 := cell_regrown x0
    replace x1 := cell_regrown x1
    replace x2 := cell_regrown x2
    replace x3 := cell_regrown x3
    replace y0 := cell_regrown y0
    replace y1 := cell_regrown y1
    replace y2 := cell_regrown y2
    replace y3 := cell_regrown y3
    have pA := fun d os => Calls.regrown_of (w := W2) (d := d) (os := os) (P1.out _)
    have pB := fun d os => Calls.regrown_of (w := W2) (d := d) (os := os) (P2.out _)
    refine wp_region_quiet_below (by kernel_rfl) (by kernel_rfl) ?_
    repeat (quiet_step (first | (with_reducible exact pA _ _) | (with_reducible exact pB _ _)))
    refine wpQuiet_nil ?_
    intro _ hw'
    obtain ⟨⟨dq, osq⟩, hw''⟩ := hw'
    subst hw''
    clear x0 x1 x2 x3 y0 y1 y2 y3 pA pB
    have hbr := below_regrown W2 dq osq
    have HX' := Lib.hid (HX.out.below hbr)
    have HY' := Lib.hid (HY.out.below hbr)
    have HB' := Lib.hid (bel_trans HB.out hbr)
    clear hbr
    generalize Go.Sort.grow (redrawn W2 dq) osq = W3 at *
    clear HX HB HY
    have HX := HX'
    have HB := HB'
    have HY := HY'
    clear HX' HB' HY'
    go_wp2
    go_ret
    exact ⟨by rw [HL.out]; rfl, HB.out⟩

def sameR (k1 i1 : Int) (s1 : ByteArray) (b1 : Bool) (k2 i2 : Int) (s2 : ByteArray) (b2 : Bool) : Bool := !lessR k1 i1 s1 b1 k2 i2 s2 b2 && !lessR k2 i2 s2 b2 k1 i1 s1 b1
theorem sameR_any (k1 i1 : Int) (s1 : ByteArray) (b1 : Bool) (k2 i2 : Int) (s2 : ByteArray) (b2 : Bool) (w : World) :
    Calls Tryd.prog 11 #[.agg #[.int .u8 k1, .int .i64 i1, .string s1, .bool b1], .agg #[.int .u8 k2, .int .i64 i2, .string s2, .bool b2]] w fun e w' => e = .returned (.bool (sameR k1 i1 s1 b1 k2 i2 s2 b2)) ∧ Below w.heap.size w w' := by
  have l1 := fun w => lessR_any k1 i1 s1 b1 k2 i2 s2 b2 w
  have l2 := fun w => lessR_any k2 i2 s2 b2 k1 i1 s1 b1 w
  obtain ⟨c1, hc1⟩ : ∃ c, lessR k1 i1 s1 b1 k2 i2 s2 b2 = c := ⟨_, rfl⟩
  obtain ⟨c2, hc2⟩ : ∃ c, lessR k2 i2 s2 b2 k1 i1 s1 b1 = c := ⟨_, rfl⟩
  rw [hc1] at l1
  rw [hc2] at l2
  have L1 := Lib.hid l1
  have L2 := Lib.hid l2
  have HL : Hid (sameR k1 i1 s1 b1 k2 i2 s2 b2 = (!c1 && !c2)) := Lib.hid (by unfold sameR; rw [hc1, hc2])
  clear hc1 hc2 l1 l2
  cases c1
  · cases c2
    · obtain ⟨W, hW⟩ : ∃ W, (w.alloc (.cells #[.int .u8 k1, .int .i64 i1, .string s1, .bool b1] 24)).alloc (.cells #[.int .u8 k2, .int .i64 i2, .string s2, .bool b2] 24) = W := ⟨_, rfl⟩
      have HX : Hid (Box W w.heap.size k1 i1 s1 b1) := Lib.hid (by rw [← hW]; exact box_up (box_new w k1 i1 s1 b1) _)
      have HY : Hid (Box W (w.heap.size + 1) k2 i2 s2 b2) := Lib.hid (by rw [← hW]; have := box_new (w.alloc (.cells #[.int .u8 k1, .int .i64 i1, .string s1, .bool b1] 24)) k2 i2 s2 b2; rw [size_alloc] at this; exact this)
      have HB : Hid (Below w.heap.size w W) := Lib.hid (by rw [← hW]; exact (bel_alloc _ _).alloc (by rw [size_alloc]; omega) _)
      have HW := Lib.hid hW
      clear hW
      go_enter Tryd.func11, Tryd.ntmps11
      go_wp2_with fail
      rw [HW.out]
      refine (L1.out _).mono ?_
      rintro e w3 ⟨rfl, hb3⟩
      have HX3 := Lib.hid (HX.out.below hb3)
      have HY3 := Lib.hid (HY.out.below hb3)
      have HB3 := Lib.hid (bel_trans HB.out hb3)
      clear hb3 HX HY HB HW
      have x0 := HX3.out.c0
      have x1 := HX3.out.c1
      have x2 := HX3.out.c2
      have x3 := HX3.out.c3
      have y0 := HY3.out.c0
      have y1 := HY3.out.c1
      have y2 := HY3.out.c2
      have y3 := HY3.out.c3
      go_wp2_with fail
      clear x0 x1 x2 x3 y0 y1 y2 y3
      refine (L2.out _).mono ?_
      rintro e w4 ⟨rfl, hb4⟩
      have HB := Lib.hid (bel_trans HB3.out hb4)
      clear hb4
      go_wp2_with fail
      go_ret
      exact ⟨by rw [HL.out]; rfl, HB.out⟩
    · obtain ⟨W, hW⟩ : ∃ W, (w.alloc (.cells #[.int .u8 k1, .int .i64 i1, .string s1, .bool b1] 24)).alloc (.cells #[.int .u8 k2, .int .i64 i2, .string s2, .bool b2] 24) = W := ⟨_, rfl⟩
      have HX : Hid (Box W w.heap.size k1 i1 s1 b1) := Lib.hid (by rw [← hW]; exact box_up (box_new w k1 i1 s1 b1) _)
      have HY : Hid (Box W (w.heap.size + 1) k2 i2 s2 b2) := Lib.hid (by rw [← hW]; have := box_new (w.alloc (.cells #[.int .u8 k1, .int .i64 i1, .string s1, .bool b1] 24)) k2 i2 s2 b2; rw [size_alloc] at this; exact this)
      have HB : Hid (Below w.heap.size w W) := Lib.hid (by rw [← hW]; exact (bel_alloc _ _).alloc (by rw [size_alloc]; omega) _)
      have HW := Lib.hid hW
      clear hW
      go_enter Tryd.func11, Tryd.ntmps11
      go_wp2_with fail
      rw [HW.out]
      refine (L1.out _).mono ?_
      rintro e w3 ⟨rfl, hb3⟩
      have HX3 := Lib.hid (HX.out.below hb3)
      have HY3 := Lib.hid (HY.out.below hb3)
      have HB3 := Lib.hid (bel_trans HB.out hb3)
      clear hb3 HX HY HB HW
      have x0 := HX3.out.c0
      have x1 := HX3.out.c1
      have x2 := HX3.out.c2
      have x3 := HX3.out.c3
      have y0 := HY3.out.c0
      have y1 := HY3.out.c1
      have y2 := HY3.out.c2
      have y3 := HY3.out.c3
      go_wp2_with fail
      clear x0 x1 x2 x3 y0 y1 y2 y3
      refine (L2.out _).mono ?_
      rintro e w4 ⟨rfl, hb4⟩
      have HB := Lib.hid (bel_trans HB3.out hb4)
      clear hb4
      go_wp2_with fail
      go_ret
      exact ⟨by rw [HL.out]; rfl, HB.out⟩
  · obtain ⟨W, hW⟩ : ∃ W, (w.alloc (.cells #[.int .u8 k1, .int .i64 i1, .string s1, .bool b1] 24)).alloc (.cells #[.int .u8 k2, .int .i64 i2, .string s2, .bool b2] 24) = W := ⟨_, rfl⟩
    have HX : Hid (Box W w.heap.size k1 i1 s1 b1) := Lib.hid (by rw [← hW]; exact box_up (box_new w k1 i1 s1 b1) _)
    have HY : Hid (Box W (w.heap.size + 1) k2 i2 s2 b2) := Lib.hid (by rw [← hW]; have := box_new (w.alloc (.cells #[.int .u8 k1, .int .i64 i1, .string s1, .bool b1] 24)) k2 i2 s2 b2; rw [size_alloc] at this; exact this)
    have HB : Hid (Below w.heap.size w W) := Lib.hid (by rw [← hW]; exact (bel_alloc _ _).alloc (by rw [size_alloc]; omega) _)
    have HW := Lib.hid hW
    clear hW
    go_enter Tryd.func11, Tryd.ntmps11
    go_wp2_with fail
    rw [HW.out]
    refine (L1.out _).mono ?_
    rintro e w3 ⟨rfl, hb3⟩
    have HX3 := Lib.hid (HX.out.below hb3)
    have HY3 := Lib.hid (HY.out.below hb3)
    have HB3 := Lib.hid (bel_trans HB.out hb3)
    clear hb3 HX HY HB HW
    have HB := HB3
    go_wp2_with fail
    go_ret
    exact ⟨by rw [HL.out]; rfl, HB.out⟩
end Go.Proofs.YtdfgpaoehikdpacDoor.Cell
