/- Two values against each other: less, the same, compared; truths joined. -/
import Derived.Test.YtdfgpaoehikdpabDoorCell
namespace Go.Proofs.YtdfgpaoehikdpabDoor.Cell
open Go.RowKit Go.Proofs.YtdfgpaoehikdpabDoor.Nums
set_option linter.unusedVariables false
set_option maxRecDepth 100000

/-- what a value is, opened -/
def isNil : OV → Bool | .nil => true | _ => false
theorem eq_nil (o : OV) (w : World) : (binOp .eql 20 o.val .nilIface).run Tryd.prog w = .ok (.bool (isNil o)) w := by
  cases o <;> unfold OV.val isNil <;> kernel_rfl
theorem guard_nil (o : OV) (t : Tmp) (w : World) : (eqGuard .eql 20 (.tmp t) (.const .nilIface) o.val .nilIface).run Tryd.prog w = .ok () w := by
  cases o <;> unfold OV.val <;> kernel_rfl
attribute [local go_sem] guard_nil
theorem less_any (k1 i1 : Int) (s1 : ByteArray) (b1 : Bool) (k2 i2 : Int) (s2 : ByteArray) (b2 : Bool) (w : World) :
    Calls Tryd.prog 12 #[.agg #[.int .u8 k1, .int .i64 i1, .string s1, .bool b1], .agg #[.int .u8 k2, .int .i64 i2, .string s2, .bool b2]] w fun e w' => e = .returned (.bool (decide (orderO (openV k1 i1 s1 b1) (openV k2 i2 s2 b2) < 0))) ∧ Below w.heap.size w w' := by
  obtain ⟨W, hW⟩ : ∃ W, (w.alloc (.cells #[.int .u8 k1, .int .i64 i1, .string s1, .bool b1] 24)).alloc (.cells #[.int .u8 k2, .int .i64 i2, .string s2, .bool b2] 24) = W := ⟨_, rfl⟩
  have x0 := cell_regrown (show W.cell? ⟨w.heap.size, 0, none⟩ = some (.int .u8 k1) by rw [← hW]; exact cell_two _ _ _ _ 0)
  have x1 := cell_regrown (show W.cell? ⟨w.heap.size, 1, none⟩ = some (.int .i64 i1) by rw [← hW]; exact cell_two _ _ _ _ 1)
  have x2 := cell_regrown (show W.cell? ⟨w.heap.size, 2, none⟩ = some (.string s1) by rw [← hW]; exact cell_two _ _ _ _ 2)
  have x3 := cell_regrown (show W.cell? ⟨w.heap.size, 3, none⟩ = some (.bool b1) by rw [← hW]; exact cell_two _ _ _ _ 3)
  have y0 := cell_regrown (show W.cell? ⟨w.heap.size + 1, 0, none⟩ = some (.int .u8 k2) by rw [← hW]; exact cell_two' _ _ _ _ 0)
  have y1 := cell_regrown (show W.cell? ⟨w.heap.size + 1, 1, none⟩ = some (.int .i64 i2) by rw [← hW]; exact cell_two' _ _ _ _ 1)
  have y2 := cell_regrown (show W.cell? ⟨w.heap.size + 1, 2, none⟩ = some (.string s2) by rw [← hW]; exact cell_two' _ _ _ _ 2)
  have y3 := cell_regrown (show W.cell? ⟨w.heap.size + 1, 3, none⟩ = some (.bool b2) by rw [← hW]; exact cell_two' _ _ _ _ 3)
  have HB : Hid (Below w.heap.size w W) := Lib.hid (by rw [← hW]; exact (bel_alloc _ _).alloc (by rw [size_alloc]; omega) _)
  have oA := fun d os => Calls.regrown_of (w := W) (d := d) (os := os) (open_any k1 i1 s1 b1 _)
  have oB := fun d os => Calls.regrown_of (w := W) (d := d) (os := os) (open_any k2 i2 s2 b2 _)
  have oC := fun d os => Calls.regrown_of (w := W) (d := d) (os := os) (below_of_same (order_any (openV k1 i1 s1 b1) (openV k2 i2 s2 b2) _))
  have HW := Lib.hid hW
  clear hW
  go_enter Tryd.func12, Tryd.ntmps12
  go_wp2_with fail
  rw [HW.out]
  refine wp_region_quiet_below (by kernel_rfl) (by kernel_rfl) ?_
  repeat (quiet_step (first | (with_reducible exact oA _ _) | (with_reducible exact oB _ _) | (with_reducible exact oC _ _)))
  refine wpQuiet_nil ?_
  intro _ hw'
  obtain ⟨⟨dq, osq⟩, hw''⟩ := hw'
  subst hw''
  go_wp2
  go_ret
  exact ⟨rfl, bel_trans HB.out (below_regrown _ _ _)⟩
theorem same_any (k1 i1 : Int) (s1 : ByteArray) (b1 : Bool) (k2 i2 : Int) (s2 : ByteArray) (b2 : Bool) (w : World) :
    Calls Tryd.prog 16 #[.agg #[.int .u8 k1, .int .i64 i1, .string s1, .bool b1], .agg #[.int .u8 k2, .int .i64 i2, .string s2, .bool b2]] w fun e w' => e = .returned (.bool (orderO (openV k1 i1 s1 b1) (openV k2 i2 s2 b2) == 0)) ∧ Below w.heap.size w w' := by
  obtain ⟨W, hW⟩ : ∃ W, (w.alloc (.cells #[.int .u8 k1, .int .i64 i1, .string s1, .bool b1] 24)).alloc (.cells #[.int .u8 k2, .int .i64 i2, .string s2, .bool b2] 24) = W := ⟨_, rfl⟩
  have x0 := cell_regrown (show W.cell? ⟨w.heap.size, 0, none⟩ = some (.int .u8 k1) by rw [← hW]; exact cell_two _ _ _ _ 0)
  have x1 := cell_regrown (show W.cell? ⟨w.heap.size, 1, none⟩ = some (.int .i64 i1) by rw [← hW]; exact cell_two _ _ _ _ 1)
  have x2 := cell_regrown (show W.cell? ⟨w.heap.size, 2, none⟩ = some (.string s1) by rw [← hW]; exact cell_two _ _ _ _ 2)
  have x3 := cell_regrown (show W.cell? ⟨w.heap.size, 3, none⟩ = some (.bool b1) by rw [← hW]; exact cell_two _ _ _ _ 3)
  have y0 := cell_regrown (show W.cell? ⟨w.heap.size + 1, 0, none⟩ = some (.int .u8 k2) by rw [← hW]; exact cell_two' _ _ _ _ 0)
  have y1 := cell_regrown (show W.cell? ⟨w.heap.size + 1, 1, none⟩ = some (.int .i64 i2) by rw [← hW]; exact cell_two' _ _ _ _ 1)
  have y2 := cell_regrown (show W.cell? ⟨w.heap.size + 1, 2, none⟩ = some (.string s2) by rw [← hW]; exact cell_two' _ _ _ _ 2)
  have y3 := cell_regrown (show W.cell? ⟨w.heap.size + 1, 3, none⟩ = some (.bool b2) by rw [← hW]; exact cell_two' _ _ _ _ 3)
  have HB : Hid (Below w.heap.size w W) := Lib.hid (by rw [← hW]; exact (bel_alloc _ _).alloc (by rw [size_alloc]; omega) _)
  have oA := fun d os => Calls.regrown_of (w := W) (d := d) (os := os) (open_any k1 i1 s1 b1 _)
  have oB := fun d os => Calls.regrown_of (w := W) (d := d) (os := os) (open_any k2 i2 s2 b2 _)
  have oC := fun d os => Calls.regrown_of (w := W) (d := d) (os := os) (below_of_same (order_any (openV k1 i1 s1 b1) (openV k2 i2 s2 b2) _))
  have HW := Lib.hid hW
  clear hW
  go_enter Tryd.func16, Tryd.ntmps16
  go_wp2_with fail
  rw [HW.out]
  refine wp_region_quiet_below (by kernel_rfl) (by kernel_rfl) ?_
  repeat (quiet_step (first | (with_reducible exact oA _ _) | (with_reducible exact oB _ _) | (with_reducible exact oC _ _)))
  refine wpQuiet_nil ?_
  intro _ hw'
  obtain ⟨⟨dq, osq⟩, hw''⟩ := hw'
  subst hw''
  go_wp2
  go_ret
  exact ⟨rfl, bel_trans HB.out (below_regrown _ _ _)⟩

/-- two values compared: the order; is it known; the error -/
def cmpO (x y : OV) : Int := if isNil x || isNil y then 0 else if rankO x = rankO y then orderO x y else 0
def cmpK (x y : OV) : Bool := if isNil x || isNil y then false else decide (rankO x = rankO y)
def cmpE (x y : OV) : Int := if isNil x || isNil y then 0 else if rankO x = rankO y then 0 else 8
theorem compare_any (k1 i1 : Int) (s1 : ByteArray) (b1 : Bool) (k2 i2 : Int) (s2 : ByteArray) (b2 : Bool) (w : World) :
    Calls Tryd.prog 13 #[.agg #[.int .u8 k1, .int .i64 i1, .string s1, .bool b1], .agg #[.int .u8 k2, .int .i64 i2, .string s2, .bool b2]] w fun e w' => e = .returned (.tuple #[.int .i64 (cmpO (openV k1 i1 s1 b1) (openV k2 i2 s2 b2)), .bool (cmpK (openV k1 i1 s1 b1) (openV k2 i2 s2 b2)), .int .i64 (cmpE (openV k1 i1 s1 b1) (openV k2 i2 s2 b2))]) ∧ Below w.heap.size w w' := by
  obtain ⟨o1, ho1⟩ : ∃ o1, openV k1 i1 s1 b1 = o1 := ⟨_, rfl⟩
  obtain ⟨o2, ho2⟩ : ∃ o2, openV k2 i2 s2 b2 = o2 := ⟨_, rfl⟩
  rw [ho1, ho2]
  obtain ⟨W, hW⟩ : ∃ W, (w.alloc (.cells #[.int .u8 k1, .int .i64 i1, .string s1, .bool b1] 24)).alloc (.cells #[.int .u8 k2, .int .i64 i2, .string s2, .bool b2] 24) = W := ⟨_, rfl⟩
  have x0 := cell_regrown (show W.cell? ⟨w.heap.size, 0, none⟩ = some (.int .u8 k1) by rw [← hW]; exact cell_two _ _ _ _ 0)
  have x1 := cell_regrown (show W.cell? ⟨w.heap.size, 1, none⟩ = some (.int .i64 i1) by rw [← hW]; exact cell_two _ _ _ _ 1)
  have x2 := cell_regrown (show W.cell? ⟨w.heap.size, 2, none⟩ = some (.string s1) by rw [← hW]; exact cell_two _ _ _ _ 2)
  have x3 := cell_regrown (show W.cell? ⟨w.heap.size, 3, none⟩ = some (.bool b1) by rw [← hW]; exact cell_two _ _ _ _ 3)
  have y0 := cell_regrown (show W.cell? ⟨w.heap.size + 1, 0, none⟩ = some (.int .u8 k2) by rw [← hW]; exact cell_two' _ _ _ _ 0)
  have y1 := cell_regrown (show W.cell? ⟨w.heap.size + 1, 1, none⟩ = some (.int .i64 i2) by rw [← hW]; exact cell_two' _ _ _ _ 1)
  have y2 := cell_regrown (show W.cell? ⟨w.heap.size + 1, 2, none⟩ = some (.string s2) by rw [← hW]; exact cell_two' _ _ _ _ 2)
  have y3 := cell_regrown (show W.cell? ⟨w.heap.size + 1, 3, none⟩ = some (.bool b2) by rw [← hW]; exact cell_two' _ _ _ _ 3)
  have HB : Hid (Below w.heap.size w W) := Lib.hid (by rw [← hW]; exact (bel_alloc _ _).alloc (by rw [size_alloc]; omega) _)
  have oA := fun d os => Calls.regrown_of (w := W) (d := d) (os := os) (open_any k1 i1 s1 b1 _)
  have oB := fun d os => Calls.regrown_of (w := W) (d := d) (os := os) (open_any k2 i2 s2 b2 _)
  rw [ho1] at oA
  rw [ho2] at oB
  clear ho1 ho2
  have HW := Lib.hid hW
  clear hW
  have n1 := eq_nil o1
  have n2 := eq_nil o2
  have N1 := Lib.hid n1
  have N2 := Lib.hid n2
  clear n1 n2
  go_enter Tryd.func13, Tryd.ntmps13
  go_wp2_with fail
  rw [HW.out]
  refine wp_region_quiet_below (by kernel_rfl) (by kernel_rfl) ?_
  repeat (quiet_step (first | (with_reducible exact oA _ _) | (with_reducible exact oB _ _)))
  refine wpQuiet_nil ?_
  intro _ hw'
  obtain ⟨⟨dq, osq⟩, hw''⟩ := hw'
  subst hw''
  clear x0 x1 x2 x3 y0 y1 y2 y3 oA oB
  have HB2 : Hid (Below w.heap.size w (Sort.grow (redrawn W dq) osq)) := Lib.hid (bel_trans HB.out (below_regrown _ _ _))
  generalize Go.Sort.grow (redrawn W dq) osq = W2 at *
  have HB := HB2
  clear HB2 HW
  cases hn1 : isNil o1
  · cases hn2 : isNil o2
    · have n1 : ∀ w, (binOp .eql 20 o1.val .nilIface).run Tryd.prog w = .ok (.bool false) w := fun w => by rw [N1.out w, hn1]
      have n2 : ∀ w, (binOp .eql 20 o2.val .nilIface).run Tryd.prog w = .ok (.bool false) w := fun w => by rw [N2.out w, hn2]
      by_cases hr : rankO o1 = rankO o2
      · have HR : Hid (cmpO o1 o2 = orderO o1 o2 ∧ cmpK o1 o2 = true ∧ cmpE o1 o2 = 0) := Lib.hid (by simp [cmpO, cmpK, cmpE, hn1, hn2, hr])
        have g : (rankO o1 == rankO o2) = true := by simpa using hr
        have C1 := Lib.hid (fun w => rank_any o1 w)
        have C2 := Lib.hid (fun w => rank_any o2 w)
        clear hr hn1 hn2
        generalize rankO o1 = r1 at *
        generalize rankO o2 = r2 at *
        go_wp2_with fail
        refine (C1.out _).mono ?_
        rintro e w' ⟨rfl, rfl⟩
        go_wp2_with fail
        refine (C2.out _).mono ?_
        rintro e w' ⟨rfl, rfl⟩
        go_wp2_with fail
        refine (order_any o1 o2 _).mono ?_
        rintro e w' ⟨rfl, rfl⟩
        go_wp2_with fail
        go_ret3
        exact ⟨by rw [HR.out.1, HR.out.2.1, HR.out.2.2]; rfl, HB.out⟩
      · have HR : Hid (cmpO o1 o2 = 0 ∧ cmpK o1 o2 = false ∧ cmpE o1 o2 = 8) := Lib.hid (by simp [cmpO, cmpK, cmpE, hn1, hn2, hr])
        have g : (rankO o1 == rankO o2) = false := by simpa using hr
        have C1 := Lib.hid (fun w => rank_any o1 w)
        have C2 := Lib.hid (fun w => rank_any o2 w)
        clear hr hn1 hn2
        generalize rankO o1 = r1 at *
        generalize rankO o2 = r2 at *
        go_wp2_with fail
        refine (C1.out _).mono ?_
        rintro e w' ⟨rfl, rfl⟩
        go_wp2_with fail
        refine (C2.out _).mono ?_
        rintro e w' ⟨rfl, rfl⟩
        go_wp2_with fail
        go_ret3
        exact ⟨by rw [HR.out.1, HR.out.2.1, HR.out.2.2]; rfl, HB.out⟩
    · have n1 : ∀ w, (binOp .eql 20 o1.val .nilIface).run Tryd.prog w = .ok (.bool false) w := fun w => by rw [N1.out w, hn1]
      have n2 : ∀ w, (binOp .eql 20 o2.val .nilIface).run Tryd.prog w = .ok (.bool true) w := fun w => by rw [N2.out w, hn2]
      have HR : Hid (cmpO o1 o2 = 0 ∧ cmpK o1 o2 = false ∧ cmpE o1 o2 = 0) := Lib.hid (by simp [cmpO, cmpK, cmpE, hn1, hn2])
      clear hn1 hn2
      go_wp2_with fail
      go_ret3
      exact ⟨by rw [HR.out.1, HR.out.2.1, HR.out.2.2]; rfl, HB.out⟩
  · have n1 : ∀ w, (binOp .eql 20 o1.val .nilIface).run Tryd.prog w = .ok (.bool true) w := fun w => by rw [N1.out w, hn1]
    have HR : Hid (cmpO o1 o2 = 0 ∧ cmpK o1 o2 = false ∧ cmpE o1 o2 = 0) := Lib.hid (by simp [cmpO, cmpK, cmpE, hn1])
    clear hn1
    go_wp2_with fail
    go_ret3
    exact ⟨by rw [HR.out.1, HR.out.2.1, HR.out.2.2]; rfl, HB.out⟩
end Go.Proofs.YtdfgpaoehikdpabDoor.Cell
