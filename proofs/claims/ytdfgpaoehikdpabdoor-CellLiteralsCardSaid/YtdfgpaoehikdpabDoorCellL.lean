/- A value's literal: the program's and the document's. -/
import Derived.Test.YtdfgpaoehikdpabDoorCellD
import Derived.Test.YtdfgpaoehikdpabDoorCellK
namespace Go.Proofs.YtdfgpaoehikdpabDoor.Cell
open Go.RowKit Go.Proofs.YtdfgpaoehikdpabDoor.Nums
set_option linter.unusedVariables false
set_option maxRecDepth 100000
attribute [local go_sem] guard_nil ta_nb ta_bb ta_ib ta_sb ta_ob ta_ni ta_bi ta_ii ta_si ta_oi ta_ns ta_bs ta_is ta_ss ta_os

def sz (l : List UInt8) : ByteArray := ⟨l.toArray⟩
theorem lit_nil (i : Int) (s : ByteArray) (b : Bool) (w : World) (hT : Tabs w) :
    Calls Tryd.prog 24 #[.agg #[.int .u8 0, .int .i64 i, .string s, .bool b]] w fun e w' => e = .returned (.string ⟨#[78, 85, 76, 76]⟩) ∧ Below w.heap.size w w' := by
  obtain ⟨W, hW⟩ : ∃ W, w.alloc (.cells #[.int .u8 0, .int .i64 i, .string s, .bool b] 24) = W := ⟨_, rfl⟩
  have HB : Hid (Below w.heap.size w W) := Lib.hid (by rw [← hW]; exact bel_alloc _ _)
  have HT := Lib.hid (hT.below HB.out)
  have HW := Lib.hid hW
  clear hW hT
  go_enter Tryd.func24, Tryd.ntmps24
  go_wp2_with fail
  rw [HW.out]
  refine (open_nil _ _ _ _).mono ?_
  rintro e w3 ⟨rfl, hb3⟩
  have HB3 := Lib.hid (bel_trans HB.out hb3)
  have HT3 := Lib.hid (HT.out.below hb3)
  clear hb3 HB HT HW
  go_wp2_with fail
  go_ret
  exact ⟨rfl, HB3.out⟩
theorem lit_true (i : Int) (s : ByteArray) (w : World) (hT : Tabs w) :
    Calls Tryd.prog 24 #[.agg #[.int .u8 3, .int .i64 i, .string s, .bool true]] w fun e w' => e = .returned (.string ⟨#[84, 82, 85, 69]⟩) ∧ Below w.heap.size w w' := by
  obtain ⟨W, hW⟩ : ∃ W, w.alloc (.cells #[.int .u8 3, .int .i64 i, .string s, .bool true] 24) = W := ⟨_, rfl⟩
  have HB : Hid (Below w.heap.size w W) := Lib.hid (by rw [← hW]; exact bel_alloc _ _)
  have HT := Lib.hid (hT.below HB.out)
  have HW := Lib.hid hW
  clear hW hT
  go_enter Tryd.func24, Tryd.ntmps24
  go_wp2_with fail
  rw [HW.out]
  refine (open_bool _ _ _ _).mono ?_
  rintro e w3 ⟨rfl, hb3⟩
  have HB3 := Lib.hid (bel_trans HB.out hb3)
  have HT3 := Lib.hid (HT.out.below hb3)
  clear hb3 HB HT HW
  go_wp2_with fail
  go_ret
  exact ⟨rfl, HB3.out⟩
theorem lit_false (i : Int) (s : ByteArray) (w : World) (hT : Tabs w) :
    Calls Tryd.prog 24 #[.agg #[.int .u8 3, .int .i64 i, .string s, .bool false]] w fun e w' => e = .returned (.string ⟨#[70, 65, 76, 83, 69]⟩) ∧ Below w.heap.size w w' := by
  obtain ⟨W, hW⟩ : ∃ W, w.alloc (.cells #[.int .u8 3, .int .i64 i, .string s, .bool false] 24) = W := ⟨_, rfl⟩
  have HB : Hid (Below w.heap.size w W) := Lib.hid (by rw [← hW]; exact bel_alloc _ _)
  have HT := Lib.hid (hT.below HB.out)
  have HW := Lib.hid hW
  clear hW hT
  go_enter Tryd.func24, Tryd.ntmps24
  go_wp2_with fail
  rw [HW.out]
  refine (open_bool _ _ _ _).mono ?_
  rintro e w3 ⟨rfl, hb3⟩
  have HB3 := Lib.hid (bel_trans HB.out hb3)
  have HT3 := Lib.hid (HT.out.below hb3)
  clear hb3 HB HT HW
  go_wp2_with fail
  go_ret
  exact ⟨rfl, HB3.out⟩
theorem lit_int (i : Int) (s : ByteArray) (b : Bool) (hi : In64 i) (w : World) (hT : Tabs w) :
    Calls Tryd.prog 24 #[.agg #[.int .u8 1, .int .i64 i, .string s, .bool b]] w fun e w' => e = .returned (.string ⟨(Go.Lib.itoa i).toArray⟩) ∧ Below w.heap.size w w' := by
  obtain ⟨W, hW⟩ : ∃ W, w.alloc (.cells #[.int .u8 1, .int .i64 i, .string s, .bool b] 24) = W := ⟨_, rfl⟩
  have HB : Hid (Below w.heap.size w W) := Lib.hid (by rw [← hW]; exact bel_alloc _ _)
  have HT := Lib.hid (hT.below HB.out)
  have HW := Lib.hid hW
  clear hW hT
  go_enter Tryd.func24, Tryd.ntmps24
  go_wp2_with fail
  rw [HW.out]
  refine (open_int _ _ _ _).mono ?_
  rintro e w3 ⟨rfl, hb3⟩
  have HB3 := Lib.hid (bel_trans HB.out hb3)
  have HT3 := Lib.hid (HT.out.below hb3)
  clear hb3 HB HT HW
  go_wp2_with fail
  refine (Calc.dec_any i hi _ HT3.out.pow).mono ?_
  rintro e w4 ⟨rfl, hb4⟩
  have HB4 := Lib.hid (bel_trans HB3.out hb4)
  clear hb4 HB3
  go_wp2_with fail
  go_ret
  exact ⟨rfl, HB4.out⟩
end Go.Proofs.YtdfgpaoehikdpabDoor.Cell
