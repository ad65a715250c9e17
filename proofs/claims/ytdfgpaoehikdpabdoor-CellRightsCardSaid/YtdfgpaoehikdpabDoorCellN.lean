/- And, Or, Not: what they give. -/
import Derived.Test.YtdfgpaoehikdpabDoorCellT
namespace Go.Proofs.YtdfgpaoehikdpabDoor.Cell
open Go.RowKit Go.Proofs.YtdfgpaoehikdpabDoor.Nums
set_option linter.unusedVariables false
set_option maxRecDepth 100000
attribute [local go_sem] guard_nil ta_nb ta_bb ta_ib ta_sb ta_ob

theorem and_any (k1 i1 : Int) (s1 : ByteArray) (b1 : Bool) (k2 i2 : Int) (s2 : ByteArray) (b2 : Bool) (w : World) :
    Calls Tryd.prog 18 #[.agg #[.int .u8 k1, .int .i64 i1, .string s1, .bool b1], .agg #[.int .u8 k2, .int .i64 i2, .string s2, .bool b2]] w fun e w' => e = .returned (.tuple #[.agg #[.int .u8 (joinK (openV k1 i1 s1 b1) (openV k2 i2 s2 b2) false), .int .i64 0, .string ⟨#[]⟩, .bool (joinB (openV k1 i1 s1 b1) (openV k2 i2 s2 b2) false)], .int .i64 (joinE (openV k1 i1 s1 b1) (openV k2 i2 s2 b2))]) ∧ Below w.heap.size w w' := by
  have C := fun w => join_any k1 i1 s1 b1 k2 i2 s2 b2 false w
  generalize joinK (openV k1 i1 s1 b1) (openV k2 i2 s2 b2) false = kk at *
  generalize joinB (openV k1 i1 s1 b1) (openV k2 i2 s2 b2) false = bb at *
  generalize joinE (openV k1 i1 s1 b1) (openV k2 i2 s2 b2) = ee at *
  have CC := Lib.hid C
  clear C
  obtain ⟨W, hW⟩ : ∃ W, ((w.alloc (.cells #[.int .u8 k1, .int .i64 i1, .string s1, .bool b1] 24)).alloc (.cells #[.int .u8 k2, .int .i64 i2, .string s2, .bool b2] 24)).alloc (.cells #[.int .u8 0, .int .i64 0, .string ⟨#[]⟩, .bool false] 24) = W := ⟨_, rfl⟩
  have x0 := cell_regrown (show W.cell? ⟨w.heap.size, 0, none⟩ = some (.int .u8 k1) by rw [← hW]; exact cell_up _ (cell_two _ _ _ _ 0))
  have x1 := cell_regrown (show W.cell? ⟨w.heap.size, 1, none⟩ = some (.int .i64 i1) by rw [← hW]; exact cell_up _ (cell_two _ _ _ _ 1))
  have x2 := cell_regrown (show W.cell? ⟨w.heap.size, 2, none⟩ = some (.string s1) by rw [← hW]; exact cell_up _ (cell_two _ _ _ _ 2))
  have x3 := cell_regrown (show W.cell? ⟨w.heap.size, 3, none⟩ = some (.bool b1) by rw [← hW]; exact cell_up _ (cell_two _ _ _ _ 3))
  have y0 := cell_regrown (show W.cell? ⟨w.heap.size + 1, 0, none⟩ = some (.int .u8 k2) by rw [← hW]; exact cell_up _ (cell_two' _ _ _ _ 0))
  have y1 := cell_regrown (show W.cell? ⟨w.heap.size + 1, 1, none⟩ = some (.int .i64 i2) by rw [← hW]; exact cell_up _ (cell_two' _ _ _ _ 1))
  have y2 := cell_regrown (show W.cell? ⟨w.heap.size + 1, 2, none⟩ = some (.string s2) by rw [← hW]; exact cell_up _ (cell_two' _ _ _ _ 2))
  have y3 := cell_regrown (show W.cell? ⟨w.heap.size + 1, 3, none⟩ = some (.bool b2) by rw [← hW]; exact cell_up _ (cell_two' _ _ _ _ 3))
  have HB : Hid (Below w.heap.size w W) := Lib.hid (by rw [← hW]; exact ((bel_alloc _ _).alloc (by rw [size_alloc]; omega) _).alloc (by rw [size_alloc, size_alloc]; omega) _)
  have HS : Hid (SlotN W (w.heap.size + 1 + 1)) := Lib.hid (by rw [← hW]; have := slot_new ((w.alloc (.cells #[.int .u8 k1, .int .i64 i1, .string s1, .bool b1] 24)).alloc (.cells #[.int .u8 k2, .int .i64 i2, .string s2, .bool b2] 24)); rw [size_alloc, size_alloc] at this; exact this)
  have HW := Lib.hid hW
  clear hW
  go_enter Tryd.func18, Tryd.ntmps18
  go_wp2_with fail
  rw [HW.out]
  refine (CC.out _).mono ?_
  rintro e w3 ⟨rfl, hb3⟩
  have HS2 := Lib.hid (HS.out.below hb3)
  have HB3 := Lib.hid (bel_trans HB.out hb3)
  clear hb3 HS HW x0 x1 x2 x3 y0 y1 y2 y3
  obtain ⟨z0, z1, z2, z3, f0, f1, f2, f3, hlt⟩ := HS2.out
  go_wp2_with fail
  exact bodyPost_ret (v := .tuple #[.agg #[.int .u8 kk, .int .i64 0, .string ⟨#[]⟩, .bool bb], .int .i64 ee]) (by simp [results, Tryd.results18, go_sem, HS2.out.s0, HS2.out.s1, HS2.out.s2, HS2.out.s3]) rfl ⟨rfl, bel_set HB3.out (by omega) _ _ _ _⟩
theorem or_any (k1 i1 : Int) (s1 : ByteArray) (b1 : Bool) (k2 i2 : Int) (s2 : ByteArray) (b2 : Bool) (w : World) :
    Calls Tryd.prog 21 #[.agg #[.int .u8 k1, .int .i64 i1, .string s1, .bool b1], .agg #[.int .u8 k2, .int .i64 i2, .string s2, .bool b2]] w fun e w' => e = .returned (.tuple #[.agg #[.int .u8 (joinK (openV k1 i1 s1 b1) (openV k2 i2 s2 b2) true), .int .i64 0, .string ⟨#[]⟩, .bool (joinB (openV k1 i1 s1 b1) (openV k2 i2 s2 b2) true)], .int .i64 (joinE (openV k1 i1 s1 b1) (openV k2 i2 s2 b2))]) ∧ Below w.heap.size w w' := by
  have C := fun w => join_any k1 i1 s1 b1 k2 i2 s2 b2 true w
  generalize joinK (openV k1 i1 s1 b1) (openV k2 i2 s2 b2) true = kk at *
  generalize joinB (openV k1 i1 s1 b1) (openV k2 i2 s2 b2) true = bb at *
  generalize joinE (openV k1 i1 s1 b1) (openV k2 i2 s2 b2) = ee at *
  have CC := Lib.hid C
  clear C
  obtain ⟨W, hW⟩ : ∃ W, ((w.alloc (.cells #[.int .u8 k1, .int .i64 i1, .string s1, .bool b1] 24)).alloc (.cells #[.int .u8 k2, .int .i64 i2, .string s2, .bool b2] 24)).alloc (.cells #[.int .u8 0, .int .i64 0, .string ⟨#[]⟩, .bool false] 24) = W := ⟨_, rfl⟩
  have x0 := cell_regrown (show W.cell? ⟨w.heap.size, 0, none⟩ = some (.int .u8 k1) by rw [← hW]; exact cell_up _ (cell_two _ _ _ _ 0))
  have x1 := cell_regrown (show W.cell? ⟨w.heap.size, 1, none⟩ = some (.int .i64 i1) by rw [← hW]; exact cell_up _ (cell_two _ _ _ _ 1))
  have x2 := cell_regrown (show W.cell? ⟨w.heap.size, 2, none⟩ = some (.string s1) by rw [← hW]; exact cell_up _ (cell_two _ _ _ _ 2))
  have x3 := cell_regrown (show W.cell? ⟨w.heap.size, 3, none⟩ = some (.bool b1) by rw [← hW]; exact cell_up _ (cell_two _ _ _ _ 3))
  have y0 := cell_regrown (show W.cell? ⟨w.heap.size + 1, 0, none⟩ = some (.int .u8 k2) by rw [← hW]; exact cell_up _ (cell_two' _ _ _ _ 0))
  have y1 := cell_regrown (show W.cell? ⟨w.heap.size + 1, 1, none⟩ = some (.int .i64 i2) by rw [← hW]; exact cell_up _ (cell_two' _ _ _ _ 1))
  have y2 := cell_regrown (show W.cell? ⟨w.heap.size + 1, 2, none⟩ = some (.string s2) by rw [← hW]; exact cell_up _ (cell_two' _ _ _ _ 2))
  have y3 := cell_regrown (show W.cell? ⟨w.heap.size + 1, 3, none⟩ = some (.bool b2) by rw [← hW]; exact cell_up _ (cell_two' _ _ _ _ 3))
  have HB : Hid (Below w.heap.size w W) := Lib.hid (by rw [← hW]; exact ((bel_alloc _ _).alloc (by rw [size_alloc]; omega) _).alloc (by rw [size_alloc, size_alloc]; omega) _)
  have HS : Hid (SlotN W (w.heap.size + 1 + 1)) := Lib.hid (by rw [← hW]; have := slot_new ((w.alloc (.cells #[.int .u8 k1, .int .i64 i1, .string s1, .bool b1] 24)).alloc (.cells #[.int .u8 k2, .int .i64 i2, .string s2, .bool b2] 24)); rw [size_alloc, size_alloc] at this; exact this)
  have HW := Lib.hid hW
  clear hW
  go_enter Tryd.func21, Tryd.ntmps21
  go_wp2_with fail
  rw [HW.out]
  refine (CC.out _).mono ?_
  rintro e w3 ⟨rfl, hb3⟩
  have HS2 := Lib.hid (HS.out.below hb3)
  have HB3 := Lib.hid (bel_trans HB.out hb3)
  clear hb3 HS HW x0 x1 x2 x3 y0 y1 y2 y3
  obtain ⟨z0, z1, z2, z3, f0, f1, f2, f3, hlt⟩ := HS2.out
  go_wp2_with fail
  exact bodyPost_ret (v := .tuple #[.agg #[.int .u8 kk, .int .i64 0, .string ⟨#[]⟩, .bool bb], .int .i64 ee]) (by simp [results, Tryd.results21, go_sem, HS2.out.s0, HS2.out.s1, HS2.out.s2, HS2.out.s3]) rfl ⟨rfl, bel_set HB3.out (by omega) _ _ _ _⟩

def notK : OV → Int
  | .bool _ => 3
  | _ => 0
def notB : OV → Bool
  | .bool b => !b
  | _ => false
def notE : OV → Int
  | .nil => 0
  | .bool _ => 0
  | _ => 8
theorem not_any (k i : Int) (s : ByteArray) (b : Bool) (w : World) :
    Calls Tryd.prog 19 #[.agg #[.int .u8 k, .int .i64 i, .string s, .bool b]] w fun e w' => e = .returned (.tuple #[.agg #[.int .u8 (notK (openV k i s b)), .int .i64 0, .string ⟨#[]⟩, .bool (notB (openV k i s b))], .int .i64 (notE (openV k i s b))]) ∧ Below w.heap.size w w' := by
  obtain ⟨o, ho⟩ : ∃ o, openV k i s b = o := ⟨_, rfl⟩
  rw [ho]
  obtain ⟨W, hW⟩ : ∃ W, (w.alloc (.cells #[.int .u8 k, .int .i64 i, .string s, .bool b] 24)).alloc (.cells #[.int .u8 0, .int .i64 0, .string ⟨#[]⟩, .bool false] 24) = W := ⟨_, rfl⟩
  have x0 : W.cell? ⟨w.heap.size, 0, none⟩ = some (.int .u8 k) := by rw [← hW]; exact cell_two _ _ _ _ 0
  have x1 : W.cell? ⟨w.heap.size, 1, none⟩ = some (.int .i64 i) := by rw [← hW]; exact cell_two _ _ _ _ 1
  have x2 : W.cell? ⟨w.heap.size, 2, none⟩ = some (.string s) := by rw [← hW]; exact cell_two _ _ _ _ 2
  have x3 : W.cell? ⟨w.heap.size, 3, none⟩ = some (.bool b) := by rw [← hW]; exact cell_two _ _ _ _ 3
  have HB : Hid (Below w.heap.size w W) := Lib.hid (by rw [← hW]; exact (bel_alloc _ _).alloc (by rw [size_alloc]; omega) _)
  have HS : Hid (SlotN W (w.heap.size + 1)) := Lib.hid (by rw [← hW]; have := slot_new (w.alloc (.cells #[.int .u8 k, .int .i64 i, .string s, .bool b] 24)); rw [size_alloc] at this; exact this)
  have oA := fun w => open_any k i s b w
  rw [ho] at oA
  have OA := Lib.hid oA
  clear oA ho
  have HW := Lib.hid hW
  clear hW
  go_enter Tryd.func19, Tryd.ntmps19
  go_wp2_with fail
  rw [HW.out]
  refine (OA.out _).mono ?_
  rintro e w3 ⟨rfl, hb3⟩
  have HS2 := Lib.hid (HS.out.below hb3)
  have HB3 := Lib.hid (bel_trans HB.out hb3)
  clear hb3 HS HW x0 x1 x2 x3 OA HB
  rcases o with _ | c | c | c | ⟨c1, c2, c3, c4⟩
  · unfold OV.val
    obtain ⟨z0, z1, z2, z3, f0, f1, f2, f3, hlt⟩ := HS2.out
    go_wp2_with fail
    exact bodyPost_ret (v := .tuple #[.agg #[.int .u8 0, .int .i64 0, .string ⟨#[]⟩, .bool false], .int .i64 0]) (by simp [results, Tryd.results19, go_sem, HS2.out.s0, HS2.out.s1, HS2.out.s2, HS2.out.s3]) rfl ⟨rfl, bel_set HB3.out (by omega) _ _ _ _⟩
  · unfold OV.val
    go_wp2_with fail
    refine (truth_any _ _).mono ?_
    rintro e w4 ⟨rfl, hb4⟩
    have HS3 := Lib.hid (HS2.out.below hb4)
    have HB4 := Lib.hid (bel_trans HB3.out hb4)
    clear hb4 HS2
    have HS2 := HS3
    obtain ⟨z0, z1, z2, z3, f0, f1, f2, f3, hlt⟩ := HS2.out
    go_wp2_with fail
    exact bodyPost_ret (v := .tuple #[.agg #[.int .u8 3, .int .i64 0, .string ⟨#[]⟩, .bool (!c)], .int .i64 0]) (by simp [results, Tryd.results19, go_sem, HS2.out.s0, HS2.out.s1, HS2.out.s2, HS2.out.s3]) rfl ⟨rfl, bel_set HB4.out (by omega) _ _ _ _⟩
  · unfold OV.val
    obtain ⟨z0, z1, z2, z3, f0, f1, f2, f3, hlt⟩ := HS2.out
    go_wp2_with fail
    exact bodyPost_ret (v := .tuple #[.agg #[.int .u8 0, .int .i64 0, .string ⟨#[]⟩, .bool false], .int .i64 8]) (by simp [results, Tryd.results19, go_sem, HS2.out.s0, HS2.out.s1, HS2.out.s2, HS2.out.s3]) rfl ⟨rfl, bel_set HB3.out (by omega) _ _ _ _⟩
  · unfold OV.val
    obtain ⟨z0, z1, z2, z3, f0, f1, f2, f3, hlt⟩ := HS2.out
    go_wp2_with fail
    exact bodyPost_ret (v := .tuple #[.agg #[.int .u8 0, .int .i64 0, .string ⟨#[]⟩, .bool false], .int .i64 8]) (by simp [results, Tryd.results19, go_sem, HS2.out.s0, HS2.out.s1, HS2.out.s2, HS2.out.s3]) rfl ⟨rfl, bel_set HB3.out (by omega) _ _ _ _⟩
  · unfold OV.val
    obtain ⟨z0, z1, z2, z3, f0, f1, f2, f3, hlt⟩ := HS2.out
    go_wp2_with fail
    exact bodyPost_ret (v := .tuple #[.agg #[.int .u8 0, .int .i64 0, .string ⟨#[]⟩, .bool false], .int .i64 8]) (by simp [results, Tryd.results19, go_sem, HS2.out.s0, HS2.out.s1, HS2.out.s2, HS2.out.s3]) rfl ⟨rfl, bel_set HB3.out (by omega) _ _ _ _⟩
end Go.Proofs.YtdfgpaoehikdpabDoor.Cell
