/- The law CellApart: its walk. -/
import Derived.Test.YtdfgpaoehikdpacDoorCellG
namespace Go.Proofs.YtdfgpaoehikdpacDoor.Cell
open Go.RowKit Go.Proofs.YtdfgpaoehikdpacDoor.Nums
set_option linter.unusedVariables false
set_option maxRecDepth 100000

attribute [local irreducible] wpQuiet
set_option maxHeartbeats 4000000 in
theorem CellApart_walk (k1 i1 : Int) (s1 : ByteArray) (b1 : Bool) (k2 i2 : Int) (s2 : ByteArray) (b2 : Bool) (hs1 : s1.size ≤ maxLen) (hs2 : s2.size ≤ maxLen) (hi1 : In64 i1) (hi2 : In64 i2) (w : World) (hT : Tabs w) :
    Calls Tryd.prog 4 #[.agg #[.int .u8 k1, .int .i64 i1, .string s1, .bool b1], .agg #[.int .u8 k2, .int .i64 i2, .string s2, .bool b2]] w fun e w' => e = .returned (.bool true) ∧ Below w.heap.size w w' := by
  have HBel : Hid (Below w.heap.size w w) := Lib.hid (Below.refl _ _)
  have HTab := Lib.hid hT
  clear hT
  have R1 := Lib.hid (fun w => right_any k1 i1 s1 b1 hs1 w)
  have R2 := Lib.hid (fun w => right_any k2 i2 s2 b2 hs2 w)
  clear hs1 hs2
  go_enter Tryd.func4, Tryd.ntmps4
  go_wp2_with fail
  have Ga : Hid (Box ((w.alloc (.cells #[.int .u8 k1, .int .i64 i1, .string s1, .bool b1] 24)).alloc (.cells #[.int .u8 k2, .int .i64 i2, .string s2, .bool b2] 24)) (w.heap.size) k1 i1 s1 b1) := Lib.hid (box_up (box_new w k1 i1 s1 b1) _)
  have Gb : Hid (Box ((w.alloc (.cells #[.int .u8 k1, .int .i64 i1, .string s1, .bool b1] 24)).alloc (.cells #[.int .u8 k2, .int .i64 i2, .string s2, .bool b2] 24)) (w.heap.size + 1) k2 i2 s2 b2) := Lib.hid (by have h := box_new (w.alloc (.cells #[.int .u8 k1, .int .i64 i1, .string s1, .bool b1] 24)) k2 i2 s2 b2; rw [size_alloc] at h; exact h)
  have GBel : Hid (Below w.heap.size w ((w.alloc (.cells #[.int .u8 k1, .int .i64 i1, .string s1, .bool b1] 24)).alloc (.cells #[.int .u8 k2, .int .i64 i2, .string s2, .bool b2] 24))) := Lib.hid (bel_alloc2 (bel_alloc2 HBel.out _) _)
  have GTab : Hid (Tabs ((w.alloc (.cells #[.int .u8 k1, .int .i64 i1, .string s1, .bool b1] 24)).alloc (.cells #[.int .u8 k2, .int .i64 i2, .string s2, .bool b2] 24))) := Lib.hid ((HTab.out.below (bel_alloc _ _)).below (bel_alloc _ _))
  refine (awake_any _ GTab.out).mono ?_
  rintro e w1_ ⟨rfl, hb⟩
  have Ka := Lib.hid (Ga.out.below hb)
  have Kb := Lib.hid (Gb.out.below hb)
  have KBel := Lib.hid (bel_trans GBel.out hb)
  have KTab := Lib.hid (GTab.out.below hb)
  clear hb  HBel HTab Ga Gb GBel GTab
  skip
  have Ha := Ka
  have Hb := Kb
  have HBel := KBel
  have HTab := KTab
  clear KBel KTab Ka Kb
  have fa0 := Ha.out.c0
  have fa1 := Ha.out.c1
  have fa2 := Ha.out.c2
  have fa3 := Ha.out.c3
  have fa4 := Ha.out.lt
  have fb0 := Hb.out.c0
  have fb1 := Hb.out.c1
  have fb2 := Hb.out.c2
  have fb3 := Hb.out.c3
  have fb4 := Hb.out.lt
  go_wp2_with fail
  clear fa0 fa1 fa2 fa3 fa4 fb0 fb1 fb2 fb3 fb4
  have Ga : Hid (Box w1_ (w.heap.size) k1 i1 s1 b1) := Lib.hid Ha.out
  have Gb : Hid (Box w1_ (w.heap.size + 1) k2 i2 s2 b2) := Lib.hid Hb.out
  have GBel : Hid (Below w.heap.size w w1_) := Lib.hid HBel.out
  have GTab : Hid (Tabs w1_) := Lib.hid HTab.out
  refine (R1.out _).mono ?_
  rintro e w2_ ⟨r, rfl, hb, hv⟩
  have Ka := Lib.hid (Ga.out.below hb)
  have Kb := Lib.hid (Gb.out.below hb)
  have KBel := Lib.hid (bel_trans GBel.out hb)
  have KTab := Lib.hid (GTab.out.below hb)
  clear hb Ha Hb HBel HTab Ga Gb GBel GTab
  try clear fa0 fa1 fa2 fa3 fa4 fb0 fb1 fb2 fb3 fb4
  have Ha := Ka
  have Hb := Kb
  have HBel := KBel
  have HTab := KTab
  clear KBel KTab Ka Kb
  have fa0 := Ha.out.c0
  have fa1 := Ha.out.c1
  have fa2 := Ha.out.c2
  have fa3 := Ha.out.c3
  have fa4 := Ha.out.lt
  have fb0 := Hb.out.c0
  have fb1 := Hb.out.c1
  have fb2 := Hb.out.c2
  have fb3 := Hb.out.c3
  have fb4 := Hb.out.lt
  have HRv1 := Lib.hid hv
  clear hv R1
  cases r
  case false =>
    go_wp2_with fail
    go_ret
    exact ⟨rfl, HBel.out⟩
  have HRw := Lib.hid (HRv1.out rfl)
  clear HRv1
  have HRv1 := HRw
  clear HRw
  go_wp2_with fail
  clear fa0 fa1 fa2 fa3 fa4 fb0 fb1 fb2 fb3 fb4
  have Ga : Hid (Box w2_ (w.heap.size) k1 i1 s1 b1) := Lib.hid Ha.out
  have Gb : Hid (Box w2_ (w.heap.size + 1) k2 i2 s2 b2) := Lib.hid Hb.out
  have GBel : Hid (Below w.heap.size w w2_) := Lib.hid HBel.out
  have GTab : Hid (Tabs w2_) := Lib.hid HTab.out
  refine (R2.out _).mono ?_
  rintro e w3_ ⟨r, rfl, hb, hv⟩
  have Ka := Lib.hid (Ga.out.below hb)
  have Kb := Lib.hid (Gb.out.below hb)
  have KBel := Lib.hid (bel_trans GBel.out hb)
  have KTab := Lib.hid (GTab.out.below hb)
  clear hb Ha Hb HBel HTab Ga Gb GBel GTab
  try clear fa0 fa1 fa2 fa3 fa4 fb0 fb1 fb2 fb3 fb4
  have Ha := Ka
  have Hb := Kb
  have HBel := KBel
  have HTab := KTab
  clear KBel KTab Ka Kb
  have fa0 := Ha.out.c0
  have fa1 := Ha.out.c1
  have fa2 := Ha.out.c2
  have fa3 := Ha.out.c3
  have fa4 := Ha.out.lt
  have fb0 := Hb.out.c0
  have fb1 := Hb.out.c1
  have fb2 := Hb.out.c2
  have fb3 := Hb.out.c3
  have fb4 := Hb.out.lt
  have HRv2 := Lib.hid hv
  clear hv R2
  cases r
  case false =>
    go_wp2_with fail
    go_ret
    exact ⟨rfl, HBel.out⟩
  have HRw := Lib.hid (HRv2.out rfl)
  clear HRv2
  have HRv2 := HRw
  clear HRw
  go_wp2_with fail
  clear fa0 fa1 fa2 fa3 fa4 fb0 fb1 fb2 fb3 fb4
  have hls := lit_same HRv1.out HRv2.out
  have D1 := Lib.hid (fun w hT => lit_any HRv1.out hi1 w hT)
  have D2 := Lib.hid (fun w hT => lit_any HRv2.out hi2 w hT)
  have D3 := fun w => sameR_any k1 i1 s1 b1 k2 i2 s2 b2 w
  rw [same_doc HRv1.out HRv2.out] at D3
  rw [litV_sz] at D1 D2
  clear HRv1 HRv2 hi1 hi2
  generalize orderO (openV k1 i1 s1 b1) (openV k2 i2 s2 b2) = o at *
  generalize litL k1 i1 s1 b1 = l1 at *
  generalize litL k2 i2 s2 b2 = l2 at *
  have hls' : ((sz l1).toList == (sz l2).toList) = (decide (k1 = k2) && (o == 0)) := by rw [sz_toList, sz_toList]; exact hls
  clear hls
  generalize sz l1 = v1 at *
  generalize sz l2 = v2 at *
  have hD3 := Lib.hid D3
  clear D3
  cases hk : decide (k1 = k2)
  case false =>
    have hkk : (k1 == k2) = false := by rw [beq_eq_false_iff_ne]; exact of_decide_eq_false hk
    rw [hk, Bool.false_and] at hls'
    clear hk
    have fa0 := Ha.out.c0
    have fa1 := Ha.out.c1
    have fa2 := Ha.out.c2
    have fa3 := Ha.out.c3
    have fa4 := Ha.out.lt
    have fb0 := Hb.out.c0
    have fb1 := Hb.out.c1
    have fb2 := Hb.out.c2
    have fb3 := Hb.out.c3
    have fb4 := Hb.out.lt
    replace fa0 := cell_regrown fa0
    replace fa1 := cell_regrown fa1
    replace fa2 := cell_regrown fa2
    replace fa3 := cell_regrown fa3
    replace fb0 := cell_regrown fb0
    replace fb1 := cell_regrown fb1
    replace fb2 := cell_regrown fb2
    replace fb3 := cell_regrown fb3
    have q0 := fun d os => Calls.regrown_of (w := w3_) (d := d) (os := os) (D1.out _ (HTab.out.below (below_regrown _ _ _)))
    have q1 := fun d os => Calls.regrown_of (w := w3_) (d := d) (os := os) (D2.out _ (HTab.out.below (below_regrown _ _ _)))
    have q2 := fun d os => Calls.regrown_of (w := w3_) (d := d) (os := os) (hD3.out _)
    refine wp_region_quiet_below (by kernel_rfl) (by kernel_rfl) ?_
    repeat (quiet_step (first | (with_reducible exact q0 _ _) | (with_reducible exact q1 _ _) | (with_reducible exact q2 _ _)))
    refine wpQuiet_nil ?_
    intro _ hw'
    obtain ⟨⟨dq, osq⟩, hw''⟩ := hw'
    subst hw''
    clear fa0 fa1 fa2 fa3 fa4 fb0 fb1 fb2 fb3 fb4
    have hb := below_regrown w3_ dq osq
    have Ka := Lib.hid (Ha.out.below hb)
    have Kb := Lib.hid (Hb.out.below hb)
    have KBel := Lib.hid (bel_trans HBel.out hb)
    have KTab := Lib.hid (HTab.out.below hb)
    clear hb HBel HTab Ha Hb q0 q1 q2
    generalize Go.Sort.grow (redrawn w3_ dq) osq = w4_ at *
    have Ha := Ka
    have Hb := Kb
    have HBel := KBel
    have HTab := KTab
    clear KBel KTab Ka Kb
    have fa0 := Ha.out.c0
    have fa1 := Ha.out.c1
    have fa2 := Ha.out.c2
    have fa3 := Ha.out.c3
    have fa4 := Ha.out.lt
    have fb0 := Hb.out.c0
    have fb1 := Hb.out.c1
    have fb2 := Hb.out.c2
    have fb3 := Hb.out.c3
    have fb4 := Hb.out.lt
    go_wp2_with fail
    go_ret
    exact ⟨rfl, HBel.out⟩
  case true =>
    obtain rfl := of_decide_eq_true hk
    rw [hk, Bool.true_and] at hls'
    clear hk
    generalize (o == 0) = c at *
    have fa0 := Ha.out.c0
    have fa1 := Ha.out.c1
    have fa2 := Ha.out.c2
    have fa3 := Ha.out.c3
    have fa4 := Ha.out.lt
    have fb0 := Hb.out.c0
    have fb1 := Hb.out.c1
    have fb2 := Hb.out.c2
    have fb3 := Hb.out.c3
    have fb4 := Hb.out.lt
    replace fa0 := cell_regrown fa0
    replace fa1 := cell_regrown fa1
    replace fa2 := cell_regrown fa2
    replace fa3 := cell_regrown fa3
    replace fb0 := cell_regrown fb0
    replace fb1 := cell_regrown fb1
    replace fb2 := cell_regrown fb2
    replace fb3 := cell_regrown fb3
    have q0 := fun d os => Calls.regrown_of (w := w3_) (d := d) (os := os) (D1.out _ (HTab.out.below (below_regrown _ _ _)))
    have q1 := fun d os => Calls.regrown_of (w := w3_) (d := d) (os := os) (D2.out _ (HTab.out.below (below_regrown _ _ _)))
    have q2 := fun d os => Calls.regrown_of (w := w3_) (d := d) (os := os) (hD3.out _)
    refine wp_region_quiet_below (by kernel_rfl) (by kernel_rfl) ?_
    repeat (quiet_step (first | (with_reducible exact q0 _ _) | (with_reducible exact q1 _ _) | (with_reducible exact q2 _ _)))
    refine wpQuiet_nil ?_
    intro _ hw'
    obtain ⟨⟨dq, osq⟩, hw''⟩ := hw'
    subst hw''
    clear fa0 fa1 fa2 fa3 fa4 fb0 fb1 fb2 fb3 fb4
    have hb := below_regrown w3_ dq osq
    have Ka := Lib.hid (Ha.out.below hb)
    have Kb := Lib.hid (Hb.out.below hb)
    have KBel := Lib.hid (bel_trans HBel.out hb)
    have KTab := Lib.hid (HTab.out.below hb)
    clear hb HBel HTab Ha Hb q0 q1 q2
    generalize Go.Sort.grow (redrawn w3_ dq) osq = w4_ at *
    have Ha := Ka
    have Hb := Kb
    have HBel := KBel
    have HTab := KTab
    clear KBel KTab Ka Kb
    have fa0 := Ha.out.c0
    have fa1 := Ha.out.c1
    have fa2 := Ha.out.c2
    have fa3 := Ha.out.c3
    have fa4 := Ha.out.lt
    have fb0 := Hb.out.c0
    have fb1 := Hb.out.c1
    have fb2 := Hb.out.c2
    have fb3 := Hb.out.c3
    have fb4 := Hb.out.lt
    go_wp2_with fail
    go_ret
    exact ⟨rfl, HBel.out⟩
end Go.Proofs.YtdfgpaoehikdpacDoor.Cell
