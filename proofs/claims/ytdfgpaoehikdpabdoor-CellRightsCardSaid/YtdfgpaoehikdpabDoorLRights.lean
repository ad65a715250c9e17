/- The law CellRights: its walk. -/
import Derived.Test.YtdfgpaoehikdpabDoorCellJ
namespace Go.Proofs.YtdfgpaoehikdpabDoor.Cell
open Go.RowKit Go.Proofs.YtdfgpaoehikdpabDoor.Nums
set_option linter.unusedVariables false
set_option maxRecDepth 100000

attribute [local irreducible] wpQuiet
set_option maxHeartbeats 4000000 in
theorem CellRights_walk (k1 i1 : Int) (s1 : ByteArray) (b1 : Bool) (hs1 : s1.size ≤ maxLen) (w : World) (hh : Tabs w ∧ U8 w) :
    Calls Tryd.prog 3 #[.agg #[.int .u8 k1, .int .i64 i1, .string s1, .bool b1]] w fun e w' => e = .returned (.bool true) ∧ Below w.heap.size w w' := by
  obtain ⟨hT, hU⟩ := hh
  have HBel : Hid (Below w.heap.size w w) := Lib.hid (Below.refl _ _)
  have HTab := Lib.hid hT
  have HU := Lib.hid hU
  have HT0 := Lib.hid hT
  clear hT hU
  go_enter Tryd.func3, Tryd.ntmps3
  go_wp2_with fail
  have Ga : Hid (Box (w.alloc (.cells #[.int .u8 k1, .int .i64 i1, .string s1, .bool b1] 24)) (w.heap.size) k1 i1 s1 b1) := Lib.hid (box_new w k1 i1 s1 b1)
  have GBel : Hid (Below w.heap.size w (w.alloc (.cells #[.int .u8 k1, .int .i64 i1, .string s1, .bool b1] 24))) := Lib.hid (bel_alloc2 HBel.out _)
  have GTab : Hid (Tabs (w.alloc (.cells #[.int .u8 k1, .int .i64 i1, .string s1, .bool b1] 24))) := Lib.hid (HTab.out.below (bel_alloc _ _))
  refine (awake_any _ GTab.out).mono ?_
  rintro e w1_ ⟨rfl, hb⟩
  have HF := Lib.hid ((hb.frozen (by show w.heap.size < _; rw [size_alloc]; omega)).trans (frozen_new w #[.int .u8 k1, .int .i64 i1, .string s1, .bool b1] 24 2))
  have Ka := Lib.hid (Ga.out.below hb)
  have KBel := Lib.hid (bel_trans GBel.out hb)
  have KTab := Lib.hid (GTab.out.below hb)
  clear hb  HBel HTab Ga GBel GTab
  skip
  have Ha := Ka
  have HBel := KBel
  have HTab := KTab
  clear KBel KTab Ka
  have fa0 := Ha.out.c0
  have fa1 := Ha.out.c1
  have fa2 := Ha.out.c2
  have fa3 := Ha.out.c3
  have fa4 := Ha.out.lt
  by_cases hz : s1.size ≤ 100
  · have hz' : ¬ (100 : Int) < (s1.size : Int) := by omega
    clear HF
    go_wp2_with fail
    clear fa0 fa1 fa2 fa3 fa4
    have D1 := Lib.hid (fun w hU => cright_any k1 i1 s1 b1 hz w hU)
    have D2 := Lib.hid (fun w => right_exact k1 i1 s1 b1 hs1 w)
    generalize rightB k1 i1 s1 b1 = r at *
    have fa0 := Ha.out.c0
    have fa1 := Ha.out.c1
    have fa2 := Ha.out.c2
    have fa3 := Ha.out.c3
    have fa4 := Ha.out.lt
    replace fa0 := cell_regrown fa0
    replace fa1 := cell_regrown fa1
    replace fa2 := cell_regrown fa2
    replace fa3 := cell_regrown fa3
    have q0 := fun d os => Calls.regrown_of (w := w1_) (d := d) (os := os) (D1.out _ (HU.out.below (HBel.out.trans ((below_regrown _ _ _).mono HBel.out.size))))
    have q1 := fun d os => Calls.regrown_of (w := w1_) (d := d) (os := os) (D2.out _)
    refine wp_region_quiet_below (by kernel_rfl) (by kernel_rfl) ?_
    repeat (quiet_step (first | (with_reducible exact q0 _ _) | (with_reducible exact q1 _ _)))
    refine wpQuiet_nil ?_
    intro _ hw'
    obtain ⟨⟨dq, osq⟩, hw''⟩ := hw'
    subst hw''
    clear fa0 fa1 fa2 fa3 fa4
    have hb := below_regrown w1_ dq osq
    have Ka := Lib.hid (Ha.out.below hb)
    have KBel := Lib.hid (bel_trans HBel.out hb)
    have KTab := Lib.hid (HTab.out.below hb)
    clear hb HBel HTab Ha q0 q1
    generalize Go.Sort.grow (redrawn w1_ dq) osq = w2_ at *
    have Ha := Ka
    have HBel := KBel
    have HTab := KTab
    clear KBel KTab Ka
    have fa0 := Ha.out.c0
    have fa1 := Ha.out.c1
    have fa2 := Ha.out.c2
    have fa3 := Ha.out.c3
    have fa4 := Ha.out.lt
    go_wp2_with fail
    go_ret
    exact ⟨rfl, HBel.out⟩
  · have hz' : (100 : Int) < (s1.size : Int) := by omega
    have f2 := HF.out
    go_wp2_with fail
    clear fa0 fa1 fa2 fa3 fa4
    have he : (s1.extract 0 100).size ≤ 100 := by simp [ByteArray.size_extract]; omega
    have D1 := Lib.hid (fun w hU => cright_any k1 i1 (s1.extract 0 100) b1 he w hU)
    have D2 := Lib.hid (fun w => right_exact k1 i1 (s1.extract 0 100) b1 (by unfold maxLen; omega) w)
    generalize rightB k1 i1 (s1.extract 0 100) b1 = r at *
    obtain ⟨w2_, hw2⟩ : ∃ v, w1_.setCell ⟨w.heap.size, 2, none⟩ (.string (s1.extract 0 100)) = v := ⟨_, rfl⟩
    have Ha2 : Hid (Box w2_ w.heap.size k1 i1 (s1.extract 0 100) b1) := Lib.hid (by rw [← hw2]; exact ⟨(World.cell?_setCell_other _ _ _ _ (by simp)).trans Ha.out.c0, (World.cell?_setCell_other _ _ _ _ (by simp)).trans Ha.out.c1, World.cell?_setCell_same _ _ _ Ha.out.c2, (World.cell?_setCell_other _ _ _ _ (by simp)).trans Ha.out.c3, by rw [World.size_setCell]; exact Ha.out.lt⟩)
    have HBel2 : Hid (Below w.heap.size w w2_) := Lib.hid (by rw [← hw2]; exact HBel.out.setCell (p := ⟨w.heap.size, 2, none⟩) (Nat.le_refl _) _)
    have HTab2 : Hid (Tabs w2_) := Lib.hid (HT0.out.below HBel2.out)
    rw [hw2]
    clear hw2 f2 HF Ha HBel HTab hz hz'
    have Ha := Ha2
    have HBel := HBel2
    have HTab := HTab2
    clear Ha2 HBel2 HTab2
    have fa0 := Ha.out.c0
    have fa1 := Ha.out.c1
    have fa2 := Ha.out.c2
    have fa3 := Ha.out.c3
    have fa4 := Ha.out.lt
    replace fa0 := cell_regrown fa0
    replace fa1 := cell_regrown fa1
    replace fa2 := cell_regrown fa2
    replace fa3 := cell_regrown fa3
    have q0 := fun d os => Calls.regrown_of (w := w2_) (d := d) (os := os) (D1.out _ (HU.out.below (HBel.out.trans ((below_regrown _ _ _).mono HBel.out.size))))
    have q1 := fun d os => Calls.regrown_of (w := w2_) (d := d) (os := os) (D2.out _)
    refine wp_region_quiet_below (by kernel_rfl) (by kernel_rfl) ?_
    repeat (quiet_step (first | (with_reducible exact q0 _ _) | (with_reducible exact q1 _ _)))
    refine wpQuiet_nil ?_
    intro _ hw'
    obtain ⟨⟨dq, osq⟩, hw''⟩ := hw'
    subst hw''
    clear fa0 fa1 fa2 fa3 fa4
    have hb := below_regrown w2_ dq osq
    have Ka := Lib.hid (Ha.out.below hb)
    have KBel := Lib.hid (bel_trans HBel.out hb)
    have KTab := Lib.hid (HTab.out.below hb)
    clear hb HBel HTab Ha q0 q1
    generalize Go.Sort.grow (redrawn w2_ dq) osq = w3_ at *
    have Ha := Ka
    have HBel := KBel
    have HTab := KTab
    clear KBel KTab Ka
    have fa0 := Ha.out.c0
    have fa1 := Ha.out.c1
    have fa2 := Ha.out.c2
    have fa3 := Ha.out.c3
    have fa4 := Ha.out.lt
    go_wp2_with fail
    go_ret
    exact ⟨rfl, HBel.out⟩
end Go.Proofs.YtdfgpaoehikdpabDoor.Cell
