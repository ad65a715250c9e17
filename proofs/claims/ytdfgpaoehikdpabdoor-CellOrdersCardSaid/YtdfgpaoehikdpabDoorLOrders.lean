/- The law CellOrders: its walk. -/
import Derived.Test.YtdfgpaoehikdpabDoorCellQ2
namespace Go.Proofs.YtdfgpaoehikdpabDoor.Cell
open Go.RowKit Go.Proofs.YtdfgpaoehikdpabDoor.Nums
set_option linter.unusedVariables false
set_option maxRecDepth 100000

set_option maxHeartbeats 4000000 in
theorem CellOrders_walk (k1 i1 : Int) (s1 : ByteArray) (b1 : Bool) (k2 i2 : Int) (s2 : ByteArray) (b2 : Bool) (hs1 : s1.size ≤ maxLen) (hs2 : s2.size ≤ maxLen) (w : World) (hT : Tabs w) :
    Calls Tryd.prog 4 #[.agg #[.int .u8 k1, .int .i64 i1, .string s1, .bool b1], .agg #[.int .u8 k2, .int .i64 i2, .string s2, .bool b2]] w fun e w' => e = .returned (.bool true) ∧ Below w.heap.size w w' := by
  have HBel : Hid (Below w.heap.size w w) := Lib.hid (Below.refl _ _)
  have HTab := Lib.hid hT
  clear hT
  have R1 := Lib.hid (fun w => right_any k1 i1 s1 b1 hs1 w)
  have R2 := Lib.hid (fun w => right_any k2 i2 s2 b2 hs2 w)
  clear hs1 hs2
  go_enter Tryd.func4, Tryd.ntmps4
  go_wp2_with fail
  have Ga : Hid (Box ((w.alloc (.cells #[.int .u8 k1, .int .i64 i1, .string s1, .bool b1] 24)).alloc (.cells #[.int .u8 k2, .int .i64 i2, .string s2, .bool b2] 24)) (w.heap.size) k1 i1 s1 b1) := Lib.hid (box_up (box_new w k1 i1 s1 b1) _)
  have Gb : Hid (Box ((w.alloc (.cells #[.int .u8 k1, .int .i64 i1, .string s1, .bool b1] 24)).alloc (.cells #[.int .u8 k2, .int .i64 i2, .string s2, .bool b2] 24)) (w.heap.size + 1) k2 i2 s2 b2) := Lib.hid (by have h := box_new (w.alloc (.cells #[.int .u8 k1, .int .i64 i1, .string s1, .bool b1] 24)) k2 i2 s2 b2; rw [size_alloc] at h; exact h)
  have GBel : Hid (Below w.heap.size w ((w.alloc (.cells #[.int .u8 k1, .int .i64 i1, .string s1, .bool b1] 24)).alloc (.cells #[.int .u8 k2, .int .i64 i2, .string s2, .bool b2] 24))) := Lib.hid (bel_alloc2 (bel_alloc2 HBel.out _) _)
  have GTab : Hid (Tabs ((w.alloc (.cells #[.int .u8 k1, .int .i64 i1, .string s1, .bool b1] 24)).alloc (.cells #[.int .u8 k2, .int .i64 i2, .string s2, .bool b2] 24))) := Lib.hid ((HTab.out.below (bel_alloc _ _)).below (bel_alloc _ _))
  refine (awake_any _ GTab.out).mono ?_
  rintro e w1_ ⟨rfl, hb⟩
  have Ka := Lib.hid (Ga.out.below hb)
  have Kb := Lib.hid (Gb.out.below hb)
  have KBel := Lib.hid (bel_trans GBel.out hb)
  have KTab := Lib.hid (GTab.out.below hb)
  clear hb  HBel HTab Ga Gb GBel GTab
  skip
  have Ha := Ka
  have Hb := Kb
  have HBel := KBel
  have HTab := KTab
  clear KBel KTab Ka Kb
  have fa0 := Ha.out.c0
  have fa1 := Ha.out.c1
  have fa2 := Ha.out.c2
  have fa3 := Ha.out.c3
  have fa4 := Ha.out.lt
  have fb0 := Hb.out.c0
  have fb1 := Hb.out.c1
  have fb2 := Hb.out.c2
  have fb3 := Hb.out.c3
  have fb4 := Hb.out.lt
  go_wp2_with fail
  clear fa0 fa1 fa2 fa3 fa4 fb0 fb1 fb2 fb3 fb4
  have DL := Lib.hid (fun w => less_any k1 i1 s1 b1 k2 i2 s2 b2 w)
  have DC := Lib.hid (fun w => compare_any k1 i1 s1 b1 k2 i2 s2 b2 w)
  have Ga : Hid (Box w1_ (w.heap.size) k1 i1 s1 b1) := Lib.hid Ha.out
  have Gb : Hid (Box w1_ (w.heap.size + 1) k2 i2 s2 b2) := Lib.hid Hb.out
  have GBel : Hid (Below w.heap.size w w1_) := Lib.hid HBel.out
  have GTab : Hid (Tabs w1_) := Lib.hid HTab.out
  refine (R1.out _).mono ?_
  rintro e w2_ ⟨r, rfl, hb, hv⟩
  have Ka := Lib.hid (Ga.out.below hb)
  have Kb := Lib.hid (Gb.out.below hb)
  have KBel := Lib.hid (bel_trans GBel.out hb)
  have KTab := Lib.hid (GTab.out.below hb)
  clear hb Ha Hb HBel HTab Ga Gb GBel GTab
  try clear fa0 fa1 fa2 fa3 fa4 fb0 fb1 fb2 fb3 fb4
  have Ha := Ka
  have Hb := Kb
  have HBel := KBel
  have HTab := KTab
  clear KBel KTab Ka Kb
  have fa0 := Ha.out.c0
  have fa1 := Ha.out.c1
  have fa2 := Ha.out.c2
  have fa3 := Ha.out.c3
  have fa4 := Ha.out.lt
  have fb0 := Hb.out.c0
  have fb1 := Hb.out.c1
  have fb2 := Hb.out.c2
  have fb3 := Hb.out.c3
  have fb4 := Hb.out.lt
  have HRv1 := Lib.hid hv
  clear hv R1
  cases r
  case false =>
    go_wp2_with fail
    have Ga : Hid (Box w2_ (w.heap.size) k1 i1 s1 b1) := Lib.hid Ha.out
    have Gb : Hid (Box w2_ (w.heap.size + 1) k2 i2 s2 b2) := Lib.hid Hb.out
    have GBel : Hid (Below w.heap.size w w2_) := Lib.hid HBel.out
    have GTab : Hid (Tabs w2_) := Lib.hid HTab.out
    refine (DL.out _).mono ?_
    rintro e w3_ ⟨rfl, hb⟩
    have Ka := Lib.hid (Ga.out.below hb)
    have Kb := Lib.hid (Gb.out.below hb)
    have KBel := Lib.hid (bel_trans GBel.out hb)
    have KTab := Lib.hid (GTab.out.below hb)
    clear hb Ha Hb HBel HTab Ga Gb GBel GTab
    try clear fa0 fa1 fa2 fa3 fa4 fb0 fb1 fb2 fb3 fb4
    have Ha := Ka
    have Hb := Kb
    have HBel := KBel
    have HTab := KTab
    clear KBel KTab Ka Kb
    have fa0 := Ha.out.c0
    have fa1 := Ha.out.c1
    have fa2 := Ha.out.c2
    have fa3 := Ha.out.c3
    have fa4 := Ha.out.lt
    have fb0 := Hb.out.c0
    have fb1 := Hb.out.c1
    have fb2 := Hb.out.c2
    have fb3 := Hb.out.c3
    have fb4 := Hb.out.lt
    go_wp2_with fail
    have Ga : Hid (Box w3_ (w.heap.size) k1 i1 s1 b1) := Lib.hid Ha.out
    have Gb : Hid (Box w3_ (w.heap.size + 1) k2 i2 s2 b2) := Lib.hid Hb.out
    have GBel : Hid (Below w.heap.size w w3_) := Lib.hid HBel.out
    have GTab : Hid (Tabs w3_) := Lib.hid HTab.out
    refine (DC.out _).mono ?_
    rintro e w4_ ⟨rfl, hb⟩
    have Ka := Lib.hid (Ga.out.below hb)
    have Kb := Lib.hid (Gb.out.below hb)
    have KBel := Lib.hid (bel_trans GBel.out hb)
    have KTab := Lib.hid (GTab.out.below hb)
    clear hb Ha Hb HBel HTab Ga Gb GBel GTab
    try clear fa0 fa1 fa2 fa3 fa4 fb0 fb1 fb2 fb3 fb4
    have Ha := Ka
    have Hb := Kb
    have HBel := KBel
    have HTab := KTab
    clear KBel KTab Ka Kb
    have fa0 := Ha.out.c0
    have fa1 := Ha.out.c1
    have fa2 := Ha.out.c2
    have fa3 := Ha.out.c3
    have fa4 := Ha.out.lt
    have fb0 := Hb.out.c0
    have fb1 := Hb.out.c1
    have fb2 := Hb.out.c2
    have fb3 := Hb.out.c3
    have fb4 := Hb.out.lt
    go_wp2_with fail
    go_ret
    exact ⟨rfl, HBel.out⟩
  have HRw := Lib.hid (HRv1.out rfl)
  clear HRv1
  have HRv1 := HRw
  clear HRw
  go_wp2_with fail
  clear fa0 fa1 fa2 fa3 fa4 fb0 fb1 fb2 fb3 fb4
  have Ga : Hid (Box w2_ (w.heap.size) k1 i1 s1 b1) := Lib.hid Ha.out
  have Gb : Hid (Box w2_ (w.heap.size + 1) k2 i2 s2 b2) := Lib.hid Hb.out
  have GBel : Hid (Below w.heap.size w w2_) := Lib.hid HBel.out
  have GTab : Hid (Tabs w2_) := Lib.hid HTab.out
  refine (R2.out _).mono ?_
  rintro e w3_ ⟨r, rfl, hb, hv⟩
  have Ka := Lib.hid (Ga.out.below hb)
  have Kb := Lib.hid (Gb.out.below hb)
  have KBel := Lib.hid (bel_trans GBel.out hb)
  have KTab := Lib.hid (GTab.out.below hb)
  clear hb Ha Hb HBel HTab Ga Gb GBel GTab
  try clear fa0 fa1 fa2 fa3 fa4 fb0 fb1 fb2 fb3 fb4
  have Ha := Ka
  have Hb := Kb
  have HBel := KBel
  have HTab := KTab
  clear KBel KTab Ka Kb
  have fa0 := Ha.out.c0
  have fa1 := Ha.out.c1
  have fa2 := Ha.out.c2
  have fa3 := Ha.out.c3
  have fa4 := Ha.out.lt
  have fb0 := Hb.out.c0
  have fb1 := Hb.out.c1
  have fb2 := Hb.out.c2
  have fb3 := Hb.out.c3
  have fb4 := Hb.out.lt
  have HRv2 := Lib.hid hv
  clear hv R2
  cases r
  case false =>
    go_wp2_with fail
    have Ga : Hid (Box w3_ (w.heap.size) k1 i1 s1 b1) := Lib.hid Ha.out
    have Gb : Hid (Box w3_ (w.heap.size + 1) k2 i2 s2 b2) := Lib.hid Hb.out
    have GBel : Hid (Below w.heap.size w w3_) := Lib.hid HBel.out
    have GTab : Hid (Tabs w3_) := Lib.hid HTab.out
    refine (DL.out _).mono ?_
    rintro e w4_ ⟨rfl, hb⟩
    have Ka := Lib.hid (Ga.out.below hb)
    have Kb := Lib.hid (Gb.out.below hb)
    have KBel := Lib.hid (bel_trans GBel.out hb)
    have KTab := Lib.hid (GTab.out.below hb)
    clear hb Ha Hb HBel HTab Ga Gb GBel GTab
    try clear fa0 fa1 fa2 fa3 fa4 fb0 fb1 fb2 fb3 fb4
    have Ha := Ka
    have Hb := Kb
    have HBel := KBel
    have HTab := KTab
    clear KBel KTab Ka Kb
    have fa0 := Ha.out.c0
    have fa1 := Ha.out.c1
    have fa2 := Ha.out.c2
    have fa3 := Ha.out.c3
    have fa4 := Ha.out.lt
    have fb0 := Hb.out.c0
    have fb1 := Hb.out.c1
    have fb2 := Hb.out.c2
    have fb3 := Hb.out.c3
    have fb4 := Hb.out.lt
    go_wp2_with fail
    have Ga : Hid (Box w4_ (w.heap.size) k1 i1 s1 b1) := Lib.hid Ha.out
    have Gb : Hid (Box w4_ (w.heap.size + 1) k2 i2 s2 b2) := Lib.hid Hb.out
    have GBel : Hid (Below w.heap.size w w4_) := Lib.hid HBel.out
    have GTab : Hid (Tabs w4_) := Lib.hid HTab.out
    refine (DC.out _).mono ?_
    rintro e w5_ ⟨rfl, hb⟩
    have Ka := Lib.hid (Ga.out.below hb)
    have Kb := Lib.hid (Gb.out.below hb)
    have KBel := Lib.hid (bel_trans GBel.out hb)
    have KTab := Lib.hid (GTab.out.below hb)
    clear hb Ha Hb HBel HTab Ga Gb GBel GTab
    try clear fa0 fa1 fa2 fa3 fa4 fb0 fb1 fb2 fb3 fb4
    have Ha := Ka
    have Hb := Kb
    have HBel := KBel
    have HTab := KTab
    clear KBel KTab Ka Kb
    have fa0 := Ha.out.c0
    have fa1 := Ha.out.c1
    have fa2 := Ha.out.c2
    have fa3 := Ha.out.c3
    have fa4 := Ha.out.lt
    have fb0 := Hb.out.c0
    have fb1 := Hb.out.c1
    have fb2 := Hb.out.c2
    have fb3 := Hb.out.c3
    have fb4 := Hb.out.lt
    go_wp2_with fail
    go_ret
    exact ⟨rfl, HBel.out⟩
  have HRw := Lib.hid (HRv2.out rfl)
  clear HRv2
  have HRv2 := HRw
  clear HRw
  go_wp2_with fail
  clear fa0 fa1 fa2 fa3 fa4 fb0 fb1 fb2 fb3 fb4
  clear DL DC
  have hr := order_range (openV k1 i1 s1 b1) (openV k2 i2 s2 b2)
  have hfl := order_flip (openV k1 i1 s1 b1) (openV k2 i2 s2 b2)
  have DC := fun w => compare_any k1 i1 s1 b1 k2 i2 s2 b2 w
  have EC := fun w => cmpR_any k1 i1 s1 b1 k2 i2 s2 b2 w
  rw [(cmp_doc HRv1.out HRv2.out).1, (cmp_doc HRv1.out HRv2.out).2.1, (cmp_doc HRv1.out HRv2.out).2.2] at EC
  have EL := fun w => lessR_any k1 i1 s1 b1 k2 i2 s2 b2 w
  have ES := fun w => sameR_any k1 i1 s1 b1 k2 i2 s2 b2 w
  rw [less_doc HRv1.out HRv2.out] at EL
  rw [same_doc HRv1.out HRv2.out] at ES
  have DL := fun w => less_any k1 i1 s1 b1 k2 i2 s2 b2 w
  have DM := fun w => less_any k2 i2 s2 b2 k1 i1 s1 b1 w
  have DS := fun w => same_any k1 i1 s1 b1 k2 i2 s2 b2 w
  rw [hfl] at DM
  generalize cmpO (openV k1 i1 s1 b1) (openV k2 i2 s2 b2) = n at *
  generalize cmpK (openV k1 i1 s1 b1) (openV k2 i2 s2 b2) = kn at *
  generalize cmpE (openV k1 i1 s1 b1) (openV k2 i2 s2 b2) = en at *
  clear HRv1 HRv2 hfl
  generalize orderO (openV k1 i1 s1 b1) (openV k2 i2 s2 b2) = o at *
  have hDC := Lib.hid DC
  have hEC := Lib.hid EC
  clear DC EC
  have Ga : Hid (Box w3_ (w.heap.size) k1 i1 s1 b1) := Lib.hid Ha.out
  have Gb : Hid (Box w3_ (w.heap.size + 1) k2 i2 s2 b2) := Lib.hid Hb.out
  have GBel : Hid (Below w.heap.size w w3_) := Lib.hid HBel.out
  have GTab : Hid (Tabs w3_) := Lib.hid HTab.out
  refine (hDC.out _).mono ?_
  rintro e w4_ ⟨rfl, hb⟩
  have Ka := Lib.hid (Ga.out.below hb)
  have Kb := Lib.hid (Gb.out.below hb)
  have KBel := Lib.hid (bel_trans GBel.out hb)
  have KTab := Lib.hid (GTab.out.below hb)
  clear hb Ha Hb HBel HTab Ga Gb GBel GTab
  try clear fa0 fa1 fa2 fa3 fa4 fb0 fb1 fb2 fb3 fb4
  have Ha := Ka
  have Hb := Kb
  have HBel := KBel
  have HTab := KTab
  clear KBel KTab Ka Kb
  have fa0 := Ha.out.c0
  have fa1 := Ha.out.c1
  have fa2 := Ha.out.c2
  have fa3 := Ha.out.c3
  have fa4 := Ha.out.lt
  have fb0 := Hb.out.c0
  have fb1 := Hb.out.c1
  have fb2 := Hb.out.c2
  have fb3 := Hb.out.c3
  have fb4 := Hb.out.lt
  go_wp2_with fail
  clear fa0 fa1 fa2 fa3 fa4 fb0 fb1 fb2 fb3 fb4
  have Ga : Hid (Box w4_ (w.heap.size) k1 i1 s1 b1) := Lib.hid Ha.out
  have Gb : Hid (Box w4_ (w.heap.size + 1) k2 i2 s2 b2) := Lib.hid Hb.out
  have GBel : Hid (Below w.heap.size w w4_) := Lib.hid HBel.out
  have GTab : Hid (Tabs w4_) := Lib.hid HTab.out
  refine (hEC.out _).mono ?_
  rintro e w5_ ⟨rfl, hb⟩
  have Ka := Lib.hid (Ga.out.below hb)
  have Kb := Lib.hid (Gb.out.below hb)
  have KBel := Lib.hid (bel_trans GBel.out hb)
  have KTab := Lib.hid (GTab.out.below hb)
  clear hb Ha Hb HBel HTab Ga Gb GBel GTab
  try clear fa0 fa1 fa2 fa3 fa4 fb0 fb1 fb2 fb3 fb4
  have Ha := Ka
  have Hb := Kb
  have HBel := KBel
  have HTab := KTab
  clear KBel KTab Ka Kb
  have fa0 := Ha.out.c0
  have fa1 := Ha.out.c1
  have fa2 := Ha.out.c2
  have fa3 := Ha.out.c3
  have fa4 := Ha.out.lt
  have fb0 := Hb.out.c0
  have fb1 := Hb.out.c1
  have fb2 := Hb.out.c2
  have fb3 := Hb.out.c3
  have fb4 := Hb.out.lt
  go_wp2_with fail
  clear fa0 fa1 fa2 fa3 fa4 fb0 fb1 fb2 fb3 fb4
  rcases hr with rfl | rfl | rfl
  · have hDL : Hid (∀ w, Calls Tryd.prog 12 #[.agg #[.int .u8 k1, .int .i64 i1, .string s1, .bool b1], .agg #[.int .u8 k2, .int .i64 i2, .string s2, .bool b2]] w fun e w' => e = .returned (.bool true) ∧ Below w.heap.size w w') := Lib.hid DL
    clear DL
    have hDM : Hid (∀ w, Calls Tryd.prog 12 #[.agg #[.int .u8 k2, .int .i64 i2, .string s2, .bool b2], .agg #[.int .u8 k1, .int .i64 i1, .string s1, .bool b1]] w fun e w' => e = .returned (.bool false) ∧ Below w.heap.size w w') := Lib.hid DM
    clear DM
    have hDS : Hid (∀ w, Calls Tryd.prog 16 #[.agg #[.int .u8 k1, .int .i64 i1, .string s1, .bool b1], .agg #[.int .u8 k2, .int .i64 i2, .string s2, .bool b2]] w fun e w' => e = .returned (.bool false) ∧ Below w.heap.size w w') := Lib.hid DS
    clear DS
    have hEL : Hid (∀ w, Calls Tryd.prog 15 #[.agg #[.int .u8 k1, .int .i64 i1, .string s1, .bool b1], .agg #[.int .u8 k2, .int .i64 i2, .string s2, .bool b2]] w fun e w' => e = .returned (.bool true) ∧ Below w.heap.size w w') := Lib.hid EL
    clear EL
    have hES : Hid (∀ w, Calls Tryd.prog 17 #[.agg #[.int .u8 k1, .int .i64 i1, .string s1, .bool b1], .agg #[.int .u8 k2, .int .i64 i2, .string s2, .bool b2]] w fun e w' => e = .returned (.bool false) ∧ Below w.heap.size w w') := Lib.hid ES
    clear ES
    have fa0 := Ha.out.c0
    have fa1 := Ha.out.c1
    have fa2 := Ha.out.c2
    have fa3 := Ha.out.c3
    have fa4 := Ha.out.lt
    have fb0 := Hb.out.c0
    have fb1 := Hb.out.c1
    have fb2 := Hb.out.c2
    have fb3 := Hb.out.c3
    have fb4 := Hb.out.lt
    replace fa0 := cell_regrown fa0
    replace fa1 := cell_regrown fa1
    replace fa2 := cell_regrown fa2
    replace fa3 := cell_regrown fa3
    replace fb0 := cell_regrown fb0
    replace fb1 := cell_regrown fb1
    replace fb2 := cell_regrown fb2
    replace fb3 := cell_regrown fb3
    have q0 := fun d os => Calls.regrown_of (w := w5_) (d := d) (os := os) (hDL.out _)
    have q1 := fun d os => Calls.regrown_of (w := w5_) (d := d) (os := os) (hDM.out _)
    have q2 := fun d os => Calls.regrown_of (w := w5_) (d := d) (os := os) (hDS.out _)
    have q3 := fun d os => Calls.regrown_of (w := w5_) (d := d) (os := os) (hEL.out _)
    have q4 := fun d os => Calls.regrown_of (w := w5_) (d := d) (os := os) (hES.out _)
    refine wp_region_quiet_below (by kernel_rfl) (by kernel_rfl) ?_
    repeat (quiet_step (first | (with_reducible exact q0 _ _) | (with_reducible exact q1 _ _) | (with_reducible exact q2 _ _) | (with_reducible exact q3 _ _) | (with_reducible exact q4 _ _)))
    refine wpQuiet_nil ?_
    intro _ hw'
    obtain ⟨⟨dq, osq⟩, hw''⟩ := hw'
    subst hw''
    clear fa0 fa1 fa2 fa3 fa4 fb0 fb1 fb2 fb3 fb4
    have hb := below_regrown w5_ dq osq
    have Ka := Lib.hid (Ha.out.below hb)
    have Kb := Lib.hid (Hb.out.below hb)
    have KBel := Lib.hid (bel_trans HBel.out hb)
    have KTab := Lib.hid (HTab.out.below hb)
    clear hb HBel HTab Ha Hb q0 q1 q2 q3 q4
    generalize Go.Sort.grow (redrawn w5_ dq) osq = w6_ at *
    have Ha := Ka
    have Hb := Kb
    have HBel := KBel
    have HTab := KTab
    clear KBel KTab Ka Kb
    have fa0 := Ha.out.c0
    have fa1 := Ha.out.c1
    have fa2 := Ha.out.c2
    have fa3 := Ha.out.c3
    have fa4 := Ha.out.lt
    have fb0 := Hb.out.c0
    have fb1 := Hb.out.c1
    have fb2 := Hb.out.c2
    have fb3 := Hb.out.c3
    have fb4 := Hb.out.lt
    go_wp2_with fail
    go_ret
    exact ⟨rfl, HBel.out⟩
  · have hDL : Hid (∀ w, Calls Tryd.prog 12 #[.agg #[.int .u8 k1, .int .i64 i1, .string s1, .bool b1], .agg #[.int .u8 k2, .int .i64 i2, .string s2, .bool b2]] w fun e w' => e = .returned (.bool false) ∧ Below w.heap.size w w') := Lib.hid DL
    clear DL
    have hDM : Hid (∀ w, Calls Tryd.prog 12 #[.agg #[.int .u8 k2, .int .i64 i2, .string s2, .bool b2], .agg #[.int .u8 k1, .int .i64 i1, .string s1, .bool b1]] w fun e w' => e = .returned (.bool false) ∧ Below w.heap.size w w') := Lib.hid DM
    clear DM
    have hDS : Hid (∀ w, Calls Tryd.prog 16 #[.agg #[.int .u8 k1, .int .i64 i1, .string s1, .bool b1], .agg #[.int .u8 k2, .int .i64 i2, .string s2, .bool b2]] w fun e w' => e = .returned (.bool true) ∧ Below w.heap.size w w') := Lib.hid DS
    clear DS
    have hEL : Hid (∀ w, Calls Tryd.prog 15 #[.agg #[.int .u8 k1, .int .i64 i1, .string s1, .bool b1], .agg #[.int .u8 k2, .int .i64 i2, .string s2, .bool b2]] w fun e w' => e = .returned (.bool false) ∧ Below w.heap.size w w') := Lib.hid EL
    clear EL
    have hES : Hid (∀ w, Calls Tryd.prog 17 #[.agg #[.int .u8 k1, .int .i64 i1, .string s1, .bool b1], .agg #[.int .u8 k2, .int .i64 i2, .string s2, .bool b2]] w fun e w' => e = .returned (.bool true) ∧ Below w.heap.size w w') := Lib.hid ES
    clear ES
    have fa0 := Ha.out.c0
    have fa1 := Ha.out.c1
    have fa2 := Ha.out.c2
    have fa3 := Ha.out.c3
    have fa4 := Ha.out.lt
    have fb0 := Hb.out.c0
    have fb1 := Hb.out.c1
    have fb2 := Hb.out.c2
    have fb3 := Hb.out.c3
    have fb4 := Hb.out.lt
    replace fa0 := cell_regrown fa0
    replace fa1 := cell_regrown fa1
    replace fa2 := cell_regrown fa2
    replace fa3 := cell_regrown fa3
    replace fb0 := cell_regrown fb0
    replace fb1 := cell_regrown fb1
    replace fb2 := cell_regrown fb2
    replace fb3 := cell_regrown fb3
    have q0 := fun d os => Calls.regrown_of (w := w5_) (d := d) (os := os) (hDL.out _)
    have q1 := fun d os => Calls.regrown_of (w := w5_) (d := d) (os := os) (hDM.out _)
    have q2 := fun d os => Calls.regrown_of (w := w5_) (d := d) (os := os) (hDS.out _)
    have q3 := fun d os => Calls.regrown_of (w := w5_) (d := d) (os := os) (hEL.out _)
    have q4 := fun d os => Calls.regrown_of (w := w5_) (d := d) (os := os) (hES.out _)
    refine wp_region_quiet_below (by kernel_rfl) (by kernel_rfl) ?_
    repeat (quiet_step (first | (with_reducible exact q0 _ _) | (with_reducible exact q1 _ _) | (with_reducible exact q2 _ _) | (with_reducible exact q3 _ _) | (with_reducible exact q4 _ _)))
    refine wpQuiet_nil ?_
    intro _ hw'
    obtain ⟨⟨dq, osq⟩, hw''⟩ := hw'
    subst hw''
    clear fa0 fa1 fa2 fa3 fa4 fb0 fb1 fb2 fb3 fb4
    have hb := below_regrown w5_ dq osq
    have Ka := Lib.hid (Ha.out.below hb)
    have Kb := Lib.hid (Hb.out.below hb)
    have KBel := Lib.hid (bel_trans HBel.out hb)
    have KTab := Lib.hid (HTab.out.below hb)
    clear hb HBel HTab Ha Hb q0 q1 q2 q3 q4
    generalize Go.Sort.grow (redrawn w5_ dq) osq = w6_ at *
    have Ha := Ka
    have Hb := Kb
    have HBel := KBel
    have HTab := KTab
    clear KBel KTab Ka Kb
    have fa0 := Ha.out.c0
    have fa1 := Ha.out.c1
    have fa2 := Ha.out.c2
    have fa3 := Ha.out.c3
    have fa4 := Ha.out.lt
    have fb0 := Hb.out.c0
    have fb1 := Hb.out.c1
    have fb2 := Hb.out.c2
    have fb3 := Hb.out.c3
    have fb4 := Hb.out.lt
    go_wp2_with fail
    go_ret
    exact ⟨rfl, HBel.out⟩
  · have hDL : Hid (∀ w, Calls Tryd.prog 12 #[.agg #[.int .u8 k1, .int .i64 i1, .string s1, .bool b1], .agg #[.int .u8 k2, .int .i64 i2, .string s2, .bool b2]] w fun e w' => e = .returned (.bool false) ∧ Below w.heap.size w w') := Lib.hid DL
    clear DL
    have hDM : Hid (∀ w, Calls Tryd.prog 12 #[.agg #[.int .u8 k2, .int .i64 i2, .string s2, .bool b2], .agg #[.int .u8 k1, .int .i64 i1, .string s1, .bool b1]] w fun e w' => e = .returned (.bool true) ∧ Below w.heap.size w w') := Lib.hid DM
    clear DM
    have hDS : Hid (∀ w, Calls Tryd.prog 16 #[.agg #[.int .u8 k1, .int .i64 i1, .string s1, .bool b1], .agg #[.int .u8 k2, .int .i64 i2, .string s2, .bool b2]] w fun e w' => e = .returned (.bool false) ∧ Below w.heap.size w w') := Lib.hid DS
    clear DS
    have hEL : Hid (∀ w, Calls Tryd.prog 15 #[.agg #[.int .u8 k1, .int .i64 i1, .string s1, .bool b1], .agg #[.int .u8 k2, .int .i64 i2, .string s2, .bool b2]] w fun e w' => e = .returned (.bool false) ∧ Below w.heap.size w w') := Lib.hid EL
    clear EL
    have hES : Hid (∀ w, Calls Tryd.prog 17 #[.agg #[.int .u8 k1, .int .i64 i1, .string s1, .bool b1], .agg #[.int .u8 k2, .int .i64 i2, .string s2, .bool b2]] w fun e w' => e = .returned (.bool false) ∧ Below w.heap.size w w') := Lib.hid ES
    clear ES
    have fa0 := Ha.out.c0
    have fa1 := Ha.out.c1
    have fa2 := Ha.out.c2
    have fa3 := Ha.out.c3
    have fa4 := Ha.out.lt
    have fb0 := Hb.out.c0
    have fb1 := Hb.out.c1
    have fb2 := Hb.out.c2
    have fb3 := Hb.out.c3
    have fb4 := Hb.out.lt
    replace fa0 := cell_regrown fa0
    replace fa1 := cell_regrown fa1
    replace fa2 := cell_regrown fa2
    replace fa3 := cell_regrown fa3
    replace fb0 := cell_regrown fb0
    replace fb1 := cell_regrown fb1
    replace fb2 := cell_regrown fb2
    replace fb3 := cell_regrown fb3
    have q0 := fun d os => Calls.regrown_of (w := w5_) (d := d) (os := os) (hDL.out _)
    have q1 := fun d os => Calls.regrown_of (w := w5_) (d := d) (os := os) (hDM.out _)
    have q2 := fun d os => Calls.regrown_of (w := w5_) (d := d) (os := os) (hDS.out _)
    have q3 := fun d os => Calls.regrown_of (w := w5_) (d := d) (os := os) (hEL.out _)
    have q4 := fun d os => Calls.regrown_of (w := w5_) (d := d) (os := os) (hES.out _)
    refine wp_region_quiet_below (by kernel_rfl) (by kernel_rfl) ?_
    repeat (quiet_step (first | (with_reducible exact q0 _ _) | (with_reducible exact q1 _ _) | (with_reducible exact q2 _ _) | (with_reducible exact q3 _ _) | (with_reducible exact q4 _ _)))
    refine wpQuiet_nil ?_
    intro _ hw'
    obtain ⟨⟨dq, osq⟩, hw''⟩ := hw'
    subst hw''
    clear fa0 fa1 fa2 fa3 fa4 fb0 fb1 fb2 fb3 fb4
    have hb := below_regrown w5_ dq osq
    have Ka := Lib.hid (Ha.out.below hb)
    have Kb := Lib.hid (Hb.out.below hb)
    have KBel := Lib.hid (bel_trans HBel.out hb)
    have KTab := Lib.hid (HTab.out.below hb)
    clear hb HBel HTab Ha Hb q0 q1 q2 q3 q4
    generalize Go.Sort.grow (redrawn w5_ dq) osq = w6_ at *
    have Ha := Ka
    have Hb := Kb
    have HBel := KBel
    have HTab := KTab
    clear KBel KTab Ka Kb
    have fa0 := Ha.out.c0
    have fa1 := Ha.out.c1
    have fa2 := Ha.out.c2
    have fa3 := Ha.out.c3
    have fa4 := Ha.out.lt
    have fb0 := Hb.out.c0
    have fb1 := Hb.out.c1
    have fb2 := Hb.out.c2
    have fb3 := Hb.out.c3
    have fb4 := Hb.out.lt
    go_wp2_with fail
    go_ret
    exact ⟨rfl, HBel.out⟩
end Go.Proofs.YtdfgpaoehikdpabDoor.Cell
