/- The law CellLiterals: its walk. -/
import Derived.Test.YtdfgpaoehikdpabDoorCellN2
import Derived.Test.YtdfgpaoehikdpabDoorCellH
namespace Go.Proofs.YtdfgpaoehikdpabDoor.Cell
open Go.RowKit Go.Proofs.YtdfgpaoehikdpabDoor.Nums
set_option linter.unusedVariables false
set_option maxRecDepth 100000

attribute [local irreducible] wpQuiet
set_option maxHeartbeats 4000000 in
theorem CellLiterals_walk (k1 i1 : Int) (s1 : ByteArray) (b1 : Bool) (hs1 : s1.size ≤ maxLen) (hi : In64 i1) (w : World) (hT : Tabs w) :
    Calls Tryd.prog 8 #[.agg #[.int .u8 k1, .int .i64 i1, .string s1, .bool b1]] w fun e w' => e = .returned (.bool true) ∧ Below w.heap.size w w' := by
  have HBel : Hid (Below w.heap.size w w) := Lib.hid (Below.refl _ _)
  have HTab := Lib.hid hT
  clear hT
  have R1 := fun w => right_exact k1 i1 s1 b1 hs1 w
  clear hs1
  go_enter Tryd.func8, Tryd.ntmps8
  go_wp2_with fail
  have Ga : Hid (Box (w.alloc (.cells #[.int .u8 k1, .int .i64 i1, .string s1, .bool b1] 24)) (w.heap.size) k1 i1 s1 b1) := Lib.hid (box_new w k1 i1 s1 b1)
  have GBel : Hid (Below w.heap.size w (w.alloc (.cells #[.int .u8 k1, .int .i64 i1, .string s1, .bool b1] 24))) := Lib.hid (bel_alloc2 HBel.out _)
  have GTab : Hid (Tabs (w.alloc (.cells #[.int .u8 k1, .int .i64 i1, .string s1, .bool b1] 24))) := Lib.hid (HTab.out.below (bel_alloc _ _))
  refine (awake_any _ GTab.out).mono ?_
  rintro e w1_ ⟨rfl, hb⟩
  have Ka := Lib.hid (Ga.out.below hb)
  have KBel := Lib.hid (bel_trans GBel.out hb)
  have KTab := Lib.hid (GTab.out.below hb)
  clear hb  HBel HTab Ga GBel GTab
  skip
  have Ha := Ka
  have HBel := KBel
  have HTab := KTab
  clear KBel KTab Ka
  have fa0 := Ha.out.c0
  have fa1 := Ha.out.c1
  have fa2 := Ha.out.c2
  have fa3 := Ha.out.c3
  have fa4 := Ha.out.lt
  go_wp2_with fail
  clear fa0 fa1 fa2 fa3 fa4
  cases hrb : rightB k1 i1 s1 b1
  all_goals rw [hrb] at R1
  case false =>
    have hR1 := Lib.hid R1
    clear R1 hrb
    have fa0 := Ha.out.c0
    have fa1 := Ha.out.c1
    have fa2 := Ha.out.c2
    have fa3 := Ha.out.c3
    have fa4 := Ha.out.lt
    replace fa0 := cell_regrown fa0
    replace fa1 := cell_regrown fa1
    replace fa2 := cell_regrown fa2
    replace fa3 := cell_regrown fa3
    have q0 := fun d os => Calls.regrown_of (w := w1_) (d := d) (os := os) (hR1.out _)
    refine wp_region_quiet_below (by kernel_rfl) (by kernel_rfl) ?_
    repeat (quiet_step (first | (with_reducible exact q0 _ _)))
    refine wpQuiet_nil ?_
    intro _ hw'
    obtain ⟨⟨dq, osq⟩, hw''⟩ := hw'
    subst hw''
    clear fa0 fa1 fa2 fa3 fa4
    have hb := below_regrown w1_ dq osq
    have Ka := Lib.hid (Ha.out.below hb)
    have KBel := Lib.hid (bel_trans HBel.out hb)
    have KTab := Lib.hid (HTab.out.below hb)
    clear hb HBel HTab Ha q0
    generalize Go.Sort.grow (redrawn w1_ dq) osq = w2_ at *
    have Ha := Ka
    have HBel := KBel
    have HTab := KTab
    clear KBel KTab Ka
    have fa0 := Ha.out.c0
    have fa1 := Ha.out.c1
    have fa2 := Ha.out.c2
    have fa3 := Ha.out.c3
    have fa4 := Ha.out.lt
    go_wp2_with fail
    go_ret
    exact ⟨rfl, HBel.out⟩
  case true =>
    have HRv := right_of hrb
    have D1 := Lib.hid (fun w hT => lit_any HRv hi w hT)
    have D2 := Lib.hid (fun w => rlit_any HRv hi w)
    have hR1 := Lib.hid R1
    clear R1 hrb HRv hi
    generalize litV k1 i1 s1 b1 = v1 at *
    have fa0 := Ha.out.c0
    have fa1 := Ha.out.c1
    have fa2 := Ha.out.c2
    have fa3 := Ha.out.c3
    have fa4 := Ha.out.lt
    replace fa0 := cell_regrown fa0
    replace fa1 := cell_regrown fa1
    replace fa2 := cell_regrown fa2
    replace fa3 := cell_regrown fa3
    have q0 := fun d os => Calls.regrown_of (w := w1_) (d := d) (os := os) (hR1.out _)
    have q1 := fun d os => Calls.regrown_of (w := w1_) (d := d) (os := os) (D1.out _ (HTab.out.below (below_regrown _ _ _)))
    have q2 := fun d os => Calls.regrown_of (w := w1_) (d := d) (os := os) (D2.out _)
    refine wp_region_quiet_below (by kernel_rfl) (by kernel_rfl) ?_
    repeat (quiet_step (first | (with_reducible exact q0 _ _) | (with_reducible exact q1 _ _) | (with_reducible exact q2 _ _)))
    refine wpQuiet_nil ?_
    intro _ hw'
    obtain ⟨⟨dq, osq⟩, hw''⟩ := hw'
    subst hw''
    clear fa0 fa1 fa2 fa3 fa4
    have hb := below_regrown w1_ dq osq
    have Ka := Lib.hid (Ha.out.below hb)
    have KBel := Lib.hid (bel_trans HBel.out hb)
    have KTab := Lib.hid (HTab.out.below hb)
    clear hb HBel HTab Ha q0 q1 q2
    generalize Go.Sort.grow (redrawn w1_ dq) osq = w2_ at *
    have Ha := Ka
    have HBel := KBel
    have HTab := KTab
    clear KBel KTab Ka
    have fa0 := Ha.out.c0
    have fa1 := Ha.out.c1
    have fa2 := Ha.out.c2
    have fa3 := Ha.out.c3
    have fa4 := Ha.out.lt
    go_wp2_with fail
    go_ret
    exact ⟨rfl, HBel.out⟩
end Go.Proofs.YtdfgpaoehikdpabDoor.Cell
