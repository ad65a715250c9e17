/- The law CellSorts: its walk. -/
import Derived.Test.YtdfgpaoehikdpabDoorCellP
namespace Go.Proofs.YtdfgpaoehikdpabDoor.Cell
open Go.RowKit Go.Proofs.YtdfgpaoehikdpabDoor.Nums
set_option linter.unusedVariables false
set_option maxRecDepth 100000

attribute [local irreducible] wpQuiet
set_option maxHeartbeats 4000000 in
theorem CellSorts_walk (k1 i1 : Int) (s1 : ByteArray) (b1 : Bool) (k2 i2 : Int) (s2 : ByteArray) (b2 : Bool) (k3 i3 : Int) (s3 : ByteArray) (b3 : Bool) (hs1 : s1.size ≤ maxLen) (hs2 : s2.size ≤ maxLen) (hs3 : s3.size ≤ maxLen) (w : World) (hT : Tabs w) :
    Calls Tryd.prog 5 #[.agg #[.int .u8 k1, .int .i64 i1, .string s1, .bool b1], .agg #[.int .u8 k2, .int .i64 i2, .string s2, .bool b2], .agg #[.int .u8 k3, .int .i64 i3, .string s3, .bool b3]] w fun e w' => e = .returned (.bool true) ∧ Below w.heap.size w w' := by
  have HBel : Hid (Below w.heap.size w w) := Lib.hid (Below.refl _ _)
  have HTab := Lib.hid hT
  clear hT
  have R1 := Lib.hid (fun w => right_any k1 i1 s1 b1 hs1 w)
  have R2 := Lib.hid (fun w => right_any k2 i2 s2 b2 hs2 w)
  have R3 := Lib.hid (fun w => right_any k3 i3 s3 b3 hs3 w)
  clear hs1 hs2 hs3
  go_enter Tryd.func5, Tryd.ntmps5
  go_wp2_with fail
  have Ga : Hid (Box (((w.alloc (.cells #[.int .u8 k1, .int .i64 i1, .string s1, .bool b1] 24)).alloc (.cells #[.int .u8 k2, .int .i64 i2, .string s2, .bool b2] 24)).alloc (.cells #[.int .u8 k3, .int .i64 i3, .string s3, .bool b3] 24)) (w.heap.size) k1 i1 s1 b1) := Lib.hid (box_up (box_up (box_new w k1 i1 s1 b1) _) _)
  have Gb : Hid (Box (((w.alloc (.cells #[.int .u8 k1, .int .i64 i1, .string s1, .bool b1] 24)).alloc (.cells #[.int .u8 k2, .int .i64 i2, .string s2, .bool b2] 24)).alloc (.cells #[.int .u8 k3, .int .i64 i3, .string s3, .bool b3] 24)) (w.heap.size + 1) k2 i2 s2 b2) := Lib.hid (box_up (by have h := box_new (w.alloc (.cells #[.int .u8 k1, .int .i64 i1, .string s1, .bool b1] 24)) k2 i2 s2 b2; rw [size_alloc] at h; exact h) _)
  have Gc : Hid (Box (((w.alloc (.cells #[.int .u8 k1, .int .i64 i1, .string s1, .bool b1] 24)).alloc (.cells #[.int .u8 k2, .int .i64 i2, .string s2, .bool b2] 24)).alloc (.cells #[.int .u8 k3, .int .i64 i3, .string s3, .bool b3] 24)) (w.heap.size + 1 + 1) k3 i3 s3 b3) := Lib.hid (by have h := box_new ((w.alloc (.cells #[.int .u8 k1, .int .i64 i1, .string s1, .bool b1] 24)).alloc (.cells #[.int .u8 k2, .int .i64 i2, .string s2, .bool b2] 24)) k3 i3 s3 b3; rw [size_alloc, size_alloc] at h; exact h)
  have GBel : Hid (Below w.heap.size w (((w.alloc (.cells #[.int .u8 k1, .int .i64 i1, .string s1, .bool b1] 24)).alloc (.cells #[.int .u8 k2, .int .i64 i2, .string s2, .bool b2] 24)).alloc (.cells #[.int .u8 k3, .int .i64 i3, .string s3, .bool b3] 24))) := Lib.hid (bel_alloc2 (bel_alloc2 (bel_alloc2 HBel.out _) _) _)
  have GTab : Hid (Tabs (((w.alloc (.cells #[.int .u8 k1, .int .i64 i1, .string s1, .bool b1] 24)).alloc (.cells #[.int .u8 k2, .int .i64 i2, .string s2, .bool b2] 24)).alloc (.cells #[.int .u8 k3, .int .i64 i3, .string s3, .bool b3] 24))) := Lib.hid (((HTab.out.below (bel_alloc _ _)).below (bel_alloc _ _)).below (bel_alloc _ _))
  refine (awake_any _ GTab.out).mono ?_
  rintro e w1_ ⟨rfl, hb⟩
  have Ka := Lib.hid (Ga.out.below hb)
  have Kb := Lib.hid (Gb.out.below hb)
  have Kc := Lib.hid (Gc.out.below hb)
  have KBel := Lib.hid (bel_trans GBel.out hb)
  have KTab := Lib.hid (GTab.out.below hb)
  clear hb  HBel HTab Ga Gb Gc GBel GTab
  skip
  have Ha := Ka
  have Hb := Kb
  have Hc := Kc
  have HBel := KBel
  have HTab := KTab
  clear KBel KTab Ka Kb Kc
  have fa0 := Ha.out.c0
  have fa1 := Ha.out.c1
  have fa2 := Ha.out.c2
  have fa3 := Ha.out.c3
  have fa4 := Ha.out.lt
  have fb0 := Hb.out.c0
  have fb1 := Hb.out.c1
  have fb2 := Hb.out.c2
  have fb3 := Hb.out.c3
  have fb4 := Hb.out.lt
  have fc0 := Hc.out.c0
  have fc1 := Hc.out.c1
  have fc2 := Hc.out.c2
  have fc3 := Hc.out.c3
  have fc4 := Hc.out.lt
  go_wp2_with fail
  clear fa0 fa1 fa2 fa3 fa4 fb0 fb1 fb2 fb3 fb4 fc0 fc1 fc2 fc3 fc4
  have Ga : Hid (Box w1_ (w.heap.size) k1 i1 s1 b1) := Lib.hid Ha.out
  have Gb : Hid (Box w1_ (w.heap.size + 1) k2 i2 s2 b2) := Lib.hid Hb.out
  have Gc : Hid (Box w1_ (w.heap.size + 1 + 1) k3 i3 s3 b3) := Lib.hid Hc.out
  have GBel : Hid (Below w.heap.size w w1_) := Lib.hid HBel.out
  have GTab : Hid (Tabs w1_) := Lib.hid HTab.out
  refine (R1.out _).mono ?_
  rintro e w2_ ⟨r, rfl, hb, hv⟩
  have Ka := Lib.hid (Ga.out.below hb)
  have Kb := Lib.hid (Gb.out.below hb)
  have Kc := Lib.hid (Gc.out.below hb)
  have KBel := Lib.hid (bel_trans GBel.out hb)
  have KTab := Lib.hid (GTab.out.below hb)
  clear hb Ha Hb Hc HBel HTab Ga Gb Gc GBel GTab
  try clear fa0 fa1 fa2 fa3 fa4 fb0 fb1 fb2 fb3 fb4 fc0 fc1 fc2 fc3 fc4
  have Ha := Ka
  have Hb := Kb
  have Hc := Kc
  have HBel := KBel
  have HTab := KTab
  clear KBel KTab Ka Kb Kc
  have fa0 := Ha.out.c0
  have fa1 := Ha.out.c1
  have fa2 := Ha.out.c2
  have fa3 := Ha.out.c3
  have fa4 := Ha.out.lt
  have fb0 := Hb.out.c0
  have fb1 := Hb.out.c1
  have fb2 := Hb.out.c2
  have fb3 := Hb.out.c3
  have fb4 := Hb.out.lt
  have fc0 := Hc.out.c0
  have fc1 := Hc.out.c1
  have fc2 := Hc.out.c2
  have fc3 := Hc.out.c3
  have fc4 := Hc.out.lt
  have HRv1 := Lib.hid hv
  clear hv R1
  cases r
  case false =>
    go_wp2_with fail
    go_ret
    exact ⟨rfl, HBel.out⟩
  have HRw := Lib.hid (HRv1.out rfl)
  clear HRv1
  have HRv1 := HRw
  clear HRw
  go_wp2_with fail
  clear fa0 fa1 fa2 fa3 fa4 fb0 fb1 fb2 fb3 fb4 fc0 fc1 fc2 fc3 fc4
  have Ga : Hid (Box w2_ (w.heap.size) k1 i1 s1 b1) := Lib.hid Ha.out
  have Gb : Hid (Box w2_ (w.heap.size + 1) k2 i2 s2 b2) := Lib.hid Hb.out
  have Gc : Hid (Box w2_ (w.heap.size + 1 + 1) k3 i3 s3 b3) := Lib.hid Hc.out
  have GBel : Hid (Below w.heap.size w w2_) := Lib.hid HBel.out
  have GTab : Hid (Tabs w2_) := Lib.hid HTab.out
  refine (R2.out _).mono ?_
  rintro e w3_ ⟨r, rfl, hb, hv⟩
  have Ka := Lib.hid (Ga.out.below hb)
  have Kb := Lib.hid (Gb.out.below hb)
  have Kc := Lib.hid (Gc.out.below hb)
  have KBel := Lib.hid (bel_trans GBel.out hb)
  have KTab := Lib.hid (GTab.out.below hb)
  clear hb Ha Hb Hc HBel HTab Ga Gb Gc GBel GTab
  try clear fa0 fa1 fa2 fa3 fa4 fb0 fb1 fb2 fb3 fb4 fc0 fc1 fc2 fc3 fc4
  have Ha := Ka
  have Hb := Kb
  have Hc := Kc
  have HBel := KBel
  have HTab := KTab
  clear KBel KTab Ka Kb Kc
  have fa0 := Ha.out.c0
  have fa1 := Ha.out.c1
  have fa2 := Ha.out.c2
  have fa3 := Ha.out.c3
  have fa4 := Ha.out.lt
  have fb0 := Hb.out.c0
  have fb1 := Hb.out.c1
  have fb2 := Hb.out.c2
  have fb3 := Hb.out.c3
  have fb4 := Hb.out.lt
  have fc0 := Hc.out.c0
  have fc1 := Hc.out.c1
  have fc2 := Hc.out.c2
  have fc3 := Hc.out.c3
  have fc4 := Hc.out.lt
  have HRv2 := Lib.hid hv
  clear hv R2
  cases r
  case false =>
    go_wp2_with fail
    go_ret
    exact ⟨rfl, HBel.out⟩
  have HRw := Lib.hid (HRv2.out rfl)
  clear HRv2
  have HRv2 := HRw
  clear HRw
  go_wp2_with fail
  clear fa0 fa1 fa2 fa3 fa4 fb0 fb1 fb2 fb3 fb4 fc0 fc1 fc2 fc3 fc4
  have Ga : Hid (Box w3_ (w.heap.size) k1 i1 s1 b1) := Lib.hid Ha.out
  have Gb : Hid (Box w3_ (w.heap.size + 1) k2 i2 s2 b2) := Lib.hid Hb.out
  have Gc : Hid (Box w3_ (w.heap.size + 1 + 1) k3 i3 s3 b3) := Lib.hid Hc.out
  have GBel : Hid (Below w.heap.size w w3_) := Lib.hid HBel.out
  have GTab : Hid (Tabs w3_) := Lib.hid HTab.out
  refine (R3.out _).mono ?_
  rintro e w4_ ⟨r, rfl, hb, hv⟩
  have Ka := Lib.hid (Ga.out.below hb)
  have Kb := Lib.hid (Gb.out.below hb)
  have Kc := Lib.hid (Gc.out.below hb)
  have KBel := Lib.hid (bel_trans GBel.out hb)
  have KTab := Lib.hid (GTab.out.below hb)
  clear hb Ha Hb Hc HBel HTab Ga Gb Gc GBel GTab
  try clear fa0 fa1 fa2 fa3 fa4 fb0 fb1 fb2 fb3 fb4 fc0 fc1 fc2 fc3 fc4
  have Ha := Ka
  have Hb := Kb
  have Hc := Kc
  have HBel := KBel
  have HTab := KTab
  clear KBel KTab Ka Kb Kc
  have fa0 := Ha.out.c0
  have fa1 := Ha.out.c1
  have fa2 := Ha.out.c2
  have fa3 := Ha.out.c3
  have fa4 := Ha.out.lt
  have fb0 := Hb.out.c0
  have fb1 := Hb.out.c1
  have fb2 := Hb.out.c2
  have fb3 := Hb.out.c3
  have fb4 := Hb.out.lt
  have fc0 := Hc.out.c0
  have fc1 := Hc.out.c1
  have fc2 := Hc.out.c2
  have fc3 := Hc.out.c3
  have fc4 := Hc.out.lt
  have HRv3 := Lib.hid hv
  clear hv R3
  cases r
  case false =>
    go_wp2_with fail
    go_ret
    exact ⟨rfl, HBel.out⟩
  have HRw := Lib.hid (HRv3.out rfl)
  clear HRv3
  have HRv3 := HRw
  clear HRw
  go_wp2_with fail
  have hr := order_range (openV k1 i1 s1 b1) (openV k2 i2 s2 b2)
  have k1' := kind_right HRv1.out
  have htr : orderO (openV k1 i1 s1 b1) (openV k2 i2 s2 b2) < 0 → orderO (openV k2 i2 s2 b2) (openV k3 i3 s3 b3) < 0 → orderO (openV k1 i1 s1 b1) (openV k3 i3 s3 b3) < 0 := order_trans
  have heq : orderO (openV k1 i1 s1 b1) (openV k2 i2 s2 b2) = 0 → orderO (openV k1 i1 s1 b1) (openV k3 i3 s3 b3) = orderO (openV k2 i2 s2 b2) (openV k3 i3 s3 b3) ∧ orderO (openV k3 i3 s3 b3) (openV k1 i1 s1 b1) = orderO (openV k3 i3 s3 b3) (openV k2 i2 s2 b2) := fun e => by rw [order_zero k1' e]; exact ⟨rfl, rfl⟩
  have L12 := fun w => less_any k1 i1 s1 b1 k2 i2 s2 b2 w
  have L23 := fun w => less_any k2 i2 s2 b2 k3 i3 s3 b3 w
  have L13 := fun w => less_any k1 i1 s1 b1 k3 i3 s3 b3 w
  have L31 := fun w => less_any k3 i3 s3 b3 k1 i1 s1 b1 w
  have L32 := fun w => less_any k3 i3 s3 b3 k2 i2 s2 b2 w
  have S12 := fun w => same_any k1 i1 s1 b1 k2 i2 s2 b2 w
  generalize orderO (openV k1 i1 s1 b1) (openV k2 i2 s2 b2) = o12 at *
  generalize orderO (openV k2 i2 s2 b2) (openV k3 i3 s3 b3) = o23 at *
  generalize orderO (openV k1 i1 s1 b1) (openV k3 i3 s3 b3) = o13 at *
  generalize orderO (openV k3 i3 s3 b3) (openV k1 i1 s1 b1) = o31 at *
  generalize orderO (openV k3 i3 s3 b3) (openV k2 i2 s2 b2) = o32 at *
  clear k1' HRv1 HRv2 HRv3
  rcases hr with rfl | rfl | rfl
  · cases hq : decide (o23 < 0)
    · have hL12 : Hid (∀ w, Calls Tryd.prog 12 #[.agg #[.int .u8 k1, .int .i64 i1, .string s1, .bool b1], .agg #[.int .u8 k2, .int .i64 i2, .string s2, .bool b2]] w fun e w' => e = .returned (.bool true) ∧ Below w.heap.size w w') := Lib.hid (L12)
      have hS12 : Hid (∀ w, Calls Tryd.prog 16 #[.agg #[.int .u8 k1, .int .i64 i1, .string s1, .bool b1], .agg #[.int .u8 k2, .int .i64 i2, .string s2, .bool b2]] w fun e w' => e = .returned (.bool false) ∧ Below w.heap.size w w') := Lib.hid (S12)
      have hL23 : Hid (∀ w, Calls Tryd.prog 12 #[.agg #[.int .u8 k2, .int .i64 i2, .string s2, .bool b2], .agg #[.int .u8 k3, .int .i64 i3, .string s3, .bool b3]] w fun e w' => e = .returned (.bool false) ∧ Below w.heap.size w w') := Lib.hid (by rw [hq] at L23; exact L23)
      clear hq
      clear htr heq L12 L13 L23 L31 L32 S12
      have Ga : Hid (Box w4_ (w.heap.size) k1 i1 s1 b1) := Lib.hid Ha.out
      have Gb : Hid (Box w4_ (w.heap.size + 1) k2 i2 s2 b2) := Lib.hid Hb.out
      have Gc : Hid (Box w4_ (w.heap.size + 1 + 1) k3 i3 s3 b3) := Lib.hid Hc.out
      have GBel : Hid (Below w.heap.size w w4_) := Lib.hid HBel.out
      have GTab : Hid (Tabs w4_) := Lib.hid HTab.out
      refine (hL12.out _).mono ?_
      rintro e w5_ ⟨rfl, hb⟩
      have Ka := Lib.hid (Ga.out.below hb)
      have Kb := Lib.hid (Gb.out.below hb)
      have Kc := Lib.hid (Gc.out.below hb)
      have KBel := Lib.hid (bel_trans GBel.out hb)
      have KTab := Lib.hid (GTab.out.below hb)
      clear hb Ha Hb Hc HBel HTab Ga Gb Gc GBel GTab
      try clear fa0 fa1 fa2 fa3 fa4 fb0 fb1 fb2 fb3 fb4 fc0 fc1 fc2 fc3 fc4
      have Ha := Ka
      have Hb := Kb
      have Hc := Kc
      have HBel := KBel
      have HTab := KTab
      clear KBel KTab Ka Kb Kc
      have fa0 := Ha.out.c0
      have fa1 := Ha.out.c1
      have fa2 := Ha.out.c2
      have fa3 := Ha.out.c3
      have fa4 := Ha.out.lt
      have fb0 := Hb.out.c0
      have fb1 := Hb.out.c1
      have fb2 := Hb.out.c2
      have fb3 := Hb.out.c3
      have fb4 := Hb.out.lt
      have fc0 := Hc.out.c0
      have fc1 := Hc.out.c1
      have fc2 := Hc.out.c2
      have fc3 := Hc.out.c3
      have fc4 := Hc.out.lt
      go_wp2_with fail
      clear fa0 fa1 fa2 fa3 fa4 fb0 fb1 fb2 fb3 fb4 fc0 fc1 fc2 fc3 fc4
      have Ga : Hid (Box w5_ (w.heap.size) k1 i1 s1 b1) := Lib.hid Ha.out
      have Gb : Hid (Box w5_ (w.heap.size + 1) k2 i2 s2 b2) := Lib.hid Hb.out
      have Gc : Hid (Box w5_ (w.heap.size + 1 + 1) k3 i3 s3 b3) := Lib.hid Hc.out
      have GBel : Hid (Below w.heap.size w w5_) := Lib.hid HBel.out
      have GTab : Hid (Tabs w5_) := Lib.hid HTab.out
      refine (hL23.out _).mono ?_
      rintro e w6_ ⟨rfl, hb⟩
      have Ka := Lib.hid (Ga.out.below hb)
      have Kb := Lib.hid (Gb.out.below hb)
      have Kc := Lib.hid (Gc.out.below hb)
      have KBel := Lib.hid (bel_trans GBel.out hb)
      have KTab := Lib.hid (GTab.out.below hb)
      clear hb Ha Hb Hc HBel HTab Ga Gb Gc GBel GTab
      try clear fa0 fa1 fa2 fa3 fa4 fb0 fb1 fb2 fb3 fb4 fc0 fc1 fc2 fc3 fc4
      have Ha := Ka
      have Hb := Kb
      have Hc := Kc
      have HBel := KBel
      have HTab := KTab
      clear KBel KTab Ka Kb Kc
      have fa0 := Ha.out.c0
      have fa1 := Ha.out.c1
      have fa2 := Ha.out.c2
      have fa3 := Ha.out.c3
      have fa4 := Ha.out.lt
      have fb0 := Hb.out.c0
      have fb1 := Hb.out.c1
      have fb2 := Hb.out.c2
      have fb3 := Hb.out.c3
      have fb4 := Hb.out.lt
      have fc0 := Hc.out.c0
      have fc1 := Hc.out.c1
      have fc2 := Hc.out.c2
      have fc3 := Hc.out.c3
      have fc4 := Hc.out.lt
      go_wp2_with fail
      replace fa0 := cell_regrown fa0
      replace fa1 := cell_regrown fa1
      replace fa2 := cell_regrown fa2
      replace fa3 := cell_regrown fa3
      replace fb0 := cell_regrown fb0
      replace fb1 := cell_regrown fb1
      replace fb2 := cell_regrown fb2
      replace fb3 := cell_regrown fb3
      replace fc0 := cell_regrown fc0
      replace fc1 := cell_regrown fc1
      replace fc2 := cell_regrown fc2
      replace fc3 := cell_regrown fc3
      have q0 := fun d os => Calls.regrown_of (w := w6_) (d := d) (os := os) (hL12.out _)
      have q1 := fun d os => Calls.regrown_of (w := w6_) (d := d) (os := os) (hS12.out _)
      have q2 := fun d os => Calls.regrown_of (w := w6_) (d := d) (os := os) (hL23.out _)
      refine wp_region_quiet_below (by kernel_rfl) (by kernel_rfl) ?_
      repeat (quiet_step (first | (with_reducible exact q0 _ _) | (with_reducible exact q1 _ _) | (with_reducible exact q2 _ _)))
      refine wpQuiet_nil ?_
      intro _ hw'
      obtain ⟨⟨dq, osq⟩, hw''⟩ := hw'
      subst hw''
      clear fa0 fa1 fa2 fa3 fa4 fb0 fb1 fb2 fb3 fb4 fc0 fc1 fc2 fc3 fc4
      have hb := below_regrown w6_ dq osq
      have Ka := Lib.hid (Ha.out.below hb)
      have Kb := Lib.hid (Hb.out.below hb)
      have Kc := Lib.hid (Hc.out.below hb)
      have KBel := Lib.hid (bel_trans HBel.out hb)
      have KTab := Lib.hid (HTab.out.below hb)
      clear hb HBel HTab Ha Hb Hc q0 q1 q2
      generalize Go.Sort.grow (redrawn w6_ dq) osq = w7_ at *
      have Ha := Ka
      have Hb := Kb
      have Hc := Kc
      have HBel := KBel
      have HTab := KTab
      clear KBel KTab Ka Kb Kc
      have fa0 := Ha.out.c0
      have fa1 := Ha.out.c1
      have fa2 := Ha.out.c2
      have fa3 := Ha.out.c3
      have fa4 := Ha.out.lt
      have fb0 := Hb.out.c0
      have fb1 := Hb.out.c1
      have fb2 := Hb.out.c2
      have fb3 := Hb.out.c3
      have fb4 := Hb.out.lt
      have fc0 := Hc.out.c0
      have fc1 := Hc.out.c1
      have fc2 := Hc.out.c2
      have fc3 := Hc.out.c3
      have fc4 := Hc.out.lt
      go_wp2_with fail
      go_ret
      exact ⟨rfl, HBel.out⟩
    · have hL12 : Hid (∀ w, Calls Tryd.prog 12 #[.agg #[.int .u8 k1, .int .i64 i1, .string s1, .bool b1], .agg #[.int .u8 k2, .int .i64 i2, .string s2, .bool b2]] w fun e w' => e = .returned (.bool true) ∧ Below w.heap.size w w') := Lib.hid (L12)
      have hS12 : Hid (∀ w, Calls Tryd.prog 16 #[.agg #[.int .u8 k1, .int .i64 i1, .string s1, .bool b1], .agg #[.int .u8 k2, .int .i64 i2, .string s2, .bool b2]] w fun e w' => e = .returned (.bool false) ∧ Below w.heap.size w w') := Lib.hid (S12)
      have hL23 : Hid (∀ w, Calls Tryd.prog 12 #[.agg #[.int .u8 k2, .int .i64 i2, .string s2, .bool b2], .agg #[.int .u8 k3, .int .i64 i3, .string s3, .bool b3]] w fun e w' => e = .returned (.bool true) ∧ Below w.heap.size w w') := Lib.hid (by rw [hq] at L23; exact L23)
      have hq' := htr (by decide) (of_decide_eq_true hq)
      have hL13 : Hid (∀ w, Calls Tryd.prog 12 #[.agg #[.int .u8 k1, .int .i64 i1, .string s1, .bool b1], .agg #[.int .u8 k3, .int .i64 i3, .string s3, .bool b3]] w fun e w' => e = .returned (.bool true) ∧ Below w.heap.size w w') := Lib.hid (by rw [decide_eq_true hq'] at L13; exact L13)
      clear hq'
      clear hq
      clear htr heq L12 L13 L23 L31 L32 S12
      have Ga : Hid (Box w4_ (w.heap.size) k1 i1 s1 b1) := Lib.hid Ha.out
      have Gb : Hid (Box w4_ (w.heap.size + 1) k2 i2 s2 b2) := Lib.hid Hb.out
      have Gc : Hid (Box w4_ (w.heap.size + 1 + 1) k3 i3 s3 b3) := Lib.hid Hc.out
      have GBel : Hid (Below w.heap.size w w4_) := Lib.hid HBel.out
      have GTab : Hid (Tabs w4_) := Lib.hid HTab.out
      refine (hL12.out _).mono ?_
      rintro e w5_ ⟨rfl, hb⟩
      have Ka := Lib.hid (Ga.out.below hb)
      have Kb := Lib.hid (Gb.out.below hb)
      have Kc := Lib.hid (Gc.out.below hb)
      have KBel := Lib.hid (bel_trans GBel.out hb)
      have KTab := Lib.hid (GTab.out.below hb)
      clear hb Ha Hb Hc HBel HTab Ga Gb Gc GBel GTab
      try clear fa0 fa1 fa2 fa3 fa4 fb0 fb1 fb2 fb3 fb4 fc0 fc1 fc2 fc3 fc4
      have Ha := Ka
      have Hb := Kb
      have Hc := Kc
      have HBel := KBel
      have HTab := KTab
      clear KBel KTab Ka Kb Kc
      have fa0 := Ha.out.c0
      have fa1 := Ha.out.c1
      have fa2 := Ha.out.c2
      have fa3 := Ha.out.c3
      have fa4 := Ha.out.lt
      have fb0 := Hb.out.c0
      have fb1 := Hb.out.c1
      have fb2 := Hb.out.c2
      have fb3 := Hb.out.c3
      have fb4 := Hb.out.lt
      have fc0 := Hc.out.c0
      have fc1 := Hc.out.c1
      have fc2 := Hc.out.c2
      have fc3 := Hc.out.c3
      have fc4 := Hc.out.lt
      go_wp2_with fail
      clear fa0 fa1 fa2 fa3 fa4 fb0 fb1 fb2 fb3 fb4 fc0 fc1 fc2 fc3 fc4
      have Ga : Hid (Box w5_ (w.heap.size) k1 i1 s1 b1) := Lib.hid Ha.out
      have Gb : Hid (Box w5_ (w.heap.size + 1) k2 i2 s2 b2) := Lib.hid Hb.out
      have Gc : Hid (Box w5_ (w.heap.size + 1 + 1) k3 i3 s3 b3) := Lib.hid Hc.out
      have GBel : Hid (Below w.heap.size w w5_) := Lib.hid HBel.out
      have GTab : Hid (Tabs w5_) := Lib.hid HTab.out
      refine (hL23.out _).mono ?_
      rintro e w6_ ⟨rfl, hb⟩
      have Ka := Lib.hid (Ga.out.below hb)
      have Kb := Lib.hid (Gb.out.below hb)
      have Kc := Lib.hid (Gc.out.below hb)
      have KBel := Lib.hid (bel_trans GBel.out hb)
      have KTab := Lib.hid (GTab.out.below hb)
      clear hb Ha Hb Hc HBel HTab Ga Gb Gc GBel GTab
      try clear fa0 fa1 fa2 fa3 fa4 fb0 fb1 fb2 fb3 fb4 fc0 fc1 fc2 fc3 fc4
      have Ha := Ka
      have Hb := Kb
      have Hc := Kc
      have HBel := KBel
      have HTab := KTab
      clear KBel KTab Ka Kb Kc
      have fa0 := Ha.out.c0
      have fa1 := Ha.out.c1
      have fa2 := Ha.out.c2
      have fa3 := Ha.out.c3
      have fa4 := Ha.out.lt
      have fb0 := Hb.out.c0
      have fb1 := Hb.out.c1
      have fb2 := Hb.out.c2
      have fb3 := Hb.out.c3
      have fb4 := Hb.out.lt
      have fc0 := Hc.out.c0
      have fc1 := Hc.out.c1
      have fc2 := Hc.out.c2
      have fc3 := Hc.out.c3
      have fc4 := Hc.out.lt
      go_wp2_with fail
      clear fa0 fa1 fa2 fa3 fa4 fb0 fb1 fb2 fb3 fb4 fc0 fc1 fc2 fc3 fc4
      have Ga : Hid (Box w6_ (w.heap.size) k1 i1 s1 b1) := Lib.hid Ha.out
      have Gb : Hid (Box w6_ (w.heap.size + 1) k2 i2 s2 b2) := Lib.hid Hb.out
      have Gc : Hid (Box w6_ (w.heap.size + 1 + 1) k3 i3 s3 b3) := Lib.hid Hc.out
      have GBel : Hid (Below w.heap.size w w6_) := Lib.hid HBel.out
      have GTab : Hid (Tabs w6_) := Lib.hid HTab.out
      refine (hL13.out _).mono ?_
      rintro e w7_ ⟨rfl, hb⟩
      have Ka := Lib.hid (Ga.out.below hb)
      have Kb := Lib.hid (Gb.out.below hb)
      have Kc := Lib.hid (Gc.out.below hb)
      have KBel := Lib.hid (bel_trans GBel.out hb)
      have KTab := Lib.hid (GTab.out.below hb)
      clear hb Ha Hb Hc HBel HTab Ga Gb Gc GBel GTab
      try clear fa0 fa1 fa2 fa3 fa4 fb0 fb1 fb2 fb3 fb4 fc0 fc1 fc2 fc3 fc4
      have Ha := Ka
      have Hb := Kb
      have Hc := Kc
      have HBel := KBel
      have HTab := KTab
      clear KBel KTab Ka Kb Kc
      have fa0 := Ha.out.c0
      have fa1 := Ha.out.c1
      have fa2 := Ha.out.c2
      have fa3 := Ha.out.c3
      have fa4 := Ha.out.lt
      have fb0 := Hb.out.c0
      have fb1 := Hb.out.c1
      have fb2 := Hb.out.c2
      have fb3 := Hb.out.c3
      have fb4 := Hb.out.lt
      have fc0 := Hc.out.c0
      have fc1 := Hc.out.c1
      have fc2 := Hc.out.c2
      have fc3 := Hc.out.c3
      have fc4 := Hc.out.lt
      go_wp2_with fail
      replace fa0 := cell_regrown fa0
      replace fa1 := cell_regrown fa1
      replace fa2 := cell_regrown fa2
      replace fa3 := cell_regrown fa3
      replace fb0 := cell_regrown fb0
      replace fb1 := cell_regrown fb1
      replace fb2 := cell_regrown fb2
      replace fb3 := cell_regrown fb3
      replace fc0 := cell_regrown fc0
      replace fc1 := cell_regrown fc1
      replace fc2 := cell_regrown fc2
      replace fc3 := cell_regrown fc3
      have q0 := fun d os => Calls.regrown_of (w := w7_) (d := d) (os := os) (hL12.out _)
      have q1 := fun d os => Calls.regrown_of (w := w7_) (d := d) (os := os) (hS12.out _)
      have q2 := fun d os => Calls.regrown_of (w := w7_) (d := d) (os := os) (hL23.out _)
      have q3 := fun d os => Calls.regrown_of (w := w7_) (d := d) (os := os) (hL13.out _)
      refine wp_region_quiet_below (by kernel_rfl) (by kernel_rfl) ?_
      repeat (quiet_step (first | (with_reducible exact q0 _ _) | (with_reducible exact q1 _ _) | (with_reducible exact q2 _ _) | (with_reducible exact q3 _ _)))
      refine wpQuiet_nil ?_
      intro _ hw'
      obtain ⟨⟨dq, osq⟩, hw''⟩ := hw'
      subst hw''
      clear fa0 fa1 fa2 fa3 fa4 fb0 fb1 fb2 fb3 fb4 fc0 fc1 fc2 fc3 fc4
      have hb := below_regrown w7_ dq osq
      have Ka := Lib.hid (Ha.out.below hb)
      have Kb := Lib.hid (Hb.out.below hb)
      have Kc := Lib.hid (Hc.out.below hb)
      have KBel := Lib.hid (bel_trans HBel.out hb)
      have KTab := Lib.hid (HTab.out.below hb)
      clear hb HBel HTab Ha Hb Hc q0 q1 q2 q3
      generalize Go.Sort.grow (redrawn w7_ dq) osq = w8_ at *
      have Ha := Ka
      have Hb := Kb
      have Hc := Kc
      have HBel := KBel
      have HTab := KTab
      clear KBel KTab Ka Kb Kc
      have fa0 := Ha.out.c0
      have fa1 := Ha.out.c1
      have fa2 := Ha.out.c2
      have fa3 := Ha.out.c3
      have fa4 := Ha.out.lt
      have fb0 := Hb.out.c0
      have fb1 := Hb.out.c1
      have fb2 := Hb.out.c2
      have fb3 := Hb.out.c3
      have fb4 := Hb.out.lt
      have fc0 := Hc.out.c0
      have fc1 := Hc.out.c1
      have fc2 := Hc.out.c2
      have fc3 := Hc.out.c3
      have fc4 := Hc.out.lt
      go_wp2_with fail
      go_ret
      exact ⟨rfl, HBel.out⟩
  · have hL12 : Hid (∀ w, Calls Tryd.prog 12 #[.agg #[.int .u8 k1, .int .i64 i1, .string s1, .bool b1], .agg #[.int .u8 k2, .int .i64 i2, .string s2, .bool b2]] w fun e w' => e = .returned (.bool false) ∧ Below w.heap.size w w') := Lib.hid (L12)
    have hS12 : Hid (∀ w, Calls Tryd.prog 16 #[.agg #[.int .u8 k1, .int .i64 i1, .string s1, .bool b1], .agg #[.int .u8 k2, .int .i64 i2, .string s2, .bool b2]] w fun e w' => e = .returned (.bool true) ∧ Below w.heap.size w w') := Lib.hid (S12)
    obtain ⟨rfl, rfl⟩ := heq rfl
    obtain ⟨u, hu⟩ : ∃ u, decide (o13 < 0) = u := ⟨_, rfl⟩
    obtain ⟨v, hv⟩ : ∃ v, decide (o31 < 0) = v := ⟨_, rfl⟩
    simp only [hu, hv] at L13 L23 L31 L32
    clear hu hv
    have hL13 : Hid (∀ w, Calls Tryd.prog 12 #[.agg #[.int .u8 k1, .int .i64 i1, .string s1, .bool b1], .agg #[.int .u8 k3, .int .i64 i3, .string s3, .bool b3]] w fun e w' => e = .returned (.bool u) ∧ Below w.heap.size w w') := Lib.hid (L13)
    have hL23 : Hid (∀ w, Calls Tryd.prog 12 #[.agg #[.int .u8 k2, .int .i64 i2, .string s2, .bool b2], .agg #[.int .u8 k3, .int .i64 i3, .string s3, .bool b3]] w fun e w' => e = .returned (.bool u) ∧ Below w.heap.size w w') := Lib.hid (L23)
    have hL31 : Hid (∀ w, Calls Tryd.prog 12 #[.agg #[.int .u8 k3, .int .i64 i3, .string s3, .bool b3], .agg #[.int .u8 k1, .int .i64 i1, .string s1, .bool b1]] w fun e w' => e = .returned (.bool v) ∧ Below w.heap.size w w') := Lib.hid (L31)
    have hL32 : Hid (∀ w, Calls Tryd.prog 12 #[.agg #[.int .u8 k3, .int .i64 i3, .string s3, .bool b3], .agg #[.int .u8 k2, .int .i64 i2, .string s2, .bool b2]] w fun e w' => e = .returned (.bool v) ∧ Below w.heap.size w w') := Lib.hid (L32)
    clear htr heq L12 L13 L23 L31 L32 S12
    have Ga : Hid (Box w4_ (w.heap.size) k1 i1 s1 b1) := Lib.hid Ha.out
    have Gb : Hid (Box w4_ (w.heap.size + 1) k2 i2 s2 b2) := Lib.hid Hb.out
    have Gc : Hid (Box w4_ (w.heap.size + 1 + 1) k3 i3 s3 b3) := Lib.hid Hc.out
    have GBel : Hid (Below w.heap.size w w4_) := Lib.hid HBel.out
    have GTab : Hid (Tabs w4_) := Lib.hid HTab.out
    refine (hL12.out _).mono ?_
    rintro e w5_ ⟨rfl, hb⟩
    have Ka := Lib.hid (Ga.out.below hb)
    have Kb := Lib.hid (Gb.out.below hb)
    have Kc := Lib.hid (Gc.out.below hb)
    have KBel := Lib.hid (bel_trans GBel.out hb)
    have KTab := Lib.hid (GTab.out.below hb)
    clear hb Ha Hb Hc HBel HTab Ga Gb Gc GBel GTab
    try clear fa0 fa1 fa2 fa3 fa4 fb0 fb1 fb2 fb3 fb4 fc0 fc1 fc2 fc3 fc4
    have Ha := Ka
    have Hb := Kb
    have Hc := Kc
    have HBel := KBel
    have HTab := KTab
    clear KBel KTab Ka Kb Kc
    have fa0 := Ha.out.c0
    have fa1 := Ha.out.c1
    have fa2 := Ha.out.c2
    have fa3 := Ha.out.c3
    have fa4 := Ha.out.lt
    have fb0 := Hb.out.c0
    have fb1 := Hb.out.c1
    have fb2 := Hb.out.c2
    have fb3 := Hb.out.c3
    have fb4 := Hb.out.lt
    have fc0 := Hc.out.c0
    have fc1 := Hc.out.c1
    have fc2 := Hc.out.c2
    have fc3 := Hc.out.c3
    have fc4 := Hc.out.lt
    go_wp2_with fail
    replace fa0 := cell_regrown fa0
    replace fa1 := cell_regrown fa1
    replace fa2 := cell_regrown fa2
    replace fa3 := cell_regrown fa3
    replace fb0 := cell_regrown fb0
    replace fb1 := cell_regrown fb1
    replace fb2 := cell_regrown fb2
    replace fb3 := cell_regrown fb3
    replace fc0 := cell_regrown fc0
    replace fc1 := cell_regrown fc1
    replace fc2 := cell_regrown fc2
    replace fc3 := cell_regrown fc3
    have q0 := fun d os => Calls.regrown_of (w := w5_) (d := d) (os := os) (hL12.out _)
    have q1 := fun d os => Calls.regrown_of (w := w5_) (d := d) (os := os) (hS12.out _)
    have q2 := fun d os => Calls.regrown_of (w := w5_) (d := d) (os := os) (hL13.out _)
    have q3 := fun d os => Calls.regrown_of (w := w5_) (d := d) (os := os) (hL23.out _)
    have q4 := fun d os => Calls.regrown_of (w := w5_) (d := d) (os := os) (hL31.out _)
    have q5 := fun d os => Calls.regrown_of (w := w5_) (d := d) (os := os) (hL32.out _)
    refine wp_region_quiet_below (by kernel_rfl) (by kernel_rfl) ?_
    repeat (quiet_step (first | (with_reducible exact q0 _ _) | (with_reducible exact q1 _ _) | (with_reducible exact q2 _ _) | (with_reducible exact q3 _ _) | (with_reducible exact q4 _ _) | (with_reducible exact q5 _ _)))
    refine wpQuiet_nil ?_
    intro _ hw'
    obtain ⟨⟨dq, osq⟩, hw''⟩ := hw'
    subst hw''
    clear fa0 fa1 fa2 fa3 fa4 fb0 fb1 fb2 fb3 fb4 fc0 fc1 fc2 fc3 fc4
    have hb := below_regrown w5_ dq osq
    have Ka := Lib.hid (Ha.out.below hb)
    have Kb := Lib.hid (Hb.out.below hb)
    have Kc := Lib.hid (Hc.out.below hb)
    have KBel := Lib.hid (bel_trans HBel.out hb)
    have KTab := Lib.hid (HTab.out.below hb)
    clear hb HBel HTab Ha Hb Hc q0 q1 q2 q3 q4 q5
    generalize Go.Sort.grow (redrawn w5_ dq) osq = w6_ at *
    have Ha := Ka
    have Hb := Kb
    have Hc := Kc
    have HBel := KBel
    have HTab := KTab
    clear KBel KTab Ka Kb Kc
    have fa0 := Ha.out.c0
    have fa1 := Ha.out.c1
    have fa2 := Ha.out.c2
    have fa3 := Ha.out.c3
    have fa4 := Ha.out.lt
    have fb0 := Hb.out.c0
    have fb1 := Hb.out.c1
    have fb2 := Hb.out.c2
    have fb3 := Hb.out.c3
    have fb4 := Hb.out.lt
    have fc0 := Hc.out.c0
    have fc1 := Hc.out.c1
    have fc2 := Hc.out.c2
    have fc3 := Hc.out.c3
    have fc4 := Hc.out.lt
    go_wp2_with fail
    go_ret
    exact ⟨rfl, HBel.out⟩
  · have hL12 : Hid (∀ w, Calls Tryd.prog 12 #[.agg #[.int .u8 k1, .int .i64 i1, .string s1, .bool b1], .agg #[.int .u8 k2, .int .i64 i2, .string s2, .bool b2]] w fun e w' => e = .returned (.bool false) ∧ Below w.heap.size w w') := Lib.hid (L12)
    have hS12 : Hid (∀ w, Calls Tryd.prog 16 #[.agg #[.int .u8 k1, .int .i64 i1, .string s1, .bool b1], .agg #[.int .u8 k2, .int .i64 i2, .string s2, .bool b2]] w fun e w' => e = .returned (.bool false) ∧ Below w.heap.size w w') := Lib.hid (S12)
    clear htr heq L12 L13 L23 L31 L32 S12
    have Ga : Hid (Box w4_ (w.heap.size) k1 i1 s1 b1) := Lib.hid Ha.out
    have Gb : Hid (Box w4_ (w.heap.size + 1) k2 i2 s2 b2) := Lib.hid Hb.out
    have Gc : Hid (Box w4_ (w.heap.size + 1 + 1) k3 i3 s3 b3) := Lib.hid Hc.out
    have GBel : Hid (Below w.heap.size w w4_) := Lib.hid HBel.out
    have GTab : Hid (Tabs w4_) := Lib.hid HTab.out
    refine (hL12.out _).mono ?_
    rintro e w5_ ⟨rfl, hb⟩
    have Ka := Lib.hid (Ga.out.below hb)
    have Kb := Lib.hid (Gb.out.below hb)
    have Kc := Lib.hid (Gc.out.below hb)
    have KBel := Lib.hid (bel_trans GBel.out hb)
    have KTab := Lib.hid (GTab.out.below hb)
    clear hb Ha Hb Hc HBel HTab Ga Gb Gc GBel GTab
    try clear fa0 fa1 fa2 fa3 fa4 fb0 fb1 fb2 fb3 fb4 fc0 fc1 fc2 fc3 fc4
    have Ha := Ka
    have Hb := Kb
    have Hc := Kc
    have HBel := KBel
    have HTab := KTab
    clear KBel KTab Ka Kb Kc
    have fa0 := Ha.out.c0
    have fa1 := Ha.out.c1
    have fa2 := Ha.out.c2
    have fa3 := Ha.out.c3
    have fa4 := Ha.out.lt
    have fb0 := Hb.out.c0
    have fb1 := Hb.out.c1
    have fb2 := Hb.out.c2
    have fb3 := Hb.out.c3
    have fb4 := Hb.out.lt
    have fc0 := Hc.out.c0
    have fc1 := Hc.out.c1
    have fc2 := Hc.out.c2
    have fc3 := Hc.out.c3
    have fc4 := Hc.out.lt
    go_wp2_with fail
    replace fa0 := cell_regrown fa0
    replace fa1 := cell_regrown fa1
    replace fa2 := cell_regrown fa2
    replace fa3 := cell_regrown fa3
    replace fb0 := cell_regrown fb0
    replace fb1 := cell_regrown fb1
    replace fb2 := cell_regrown fb2
    replace fb3 := cell_regrown fb3
    replace fc0 := cell_regrown fc0
    replace fc1 := cell_regrown fc1
    replace fc2 := cell_regrown fc2
    replace fc3 := cell_regrown fc3
    have q0 := fun d os => Calls.regrown_of (w := w5_) (d := d) (os := os) (hL12.out _)
    have q1 := fun d os => Calls.regrown_of (w := w5_) (d := d) (os := os) (hS12.out _)
    refine wp_region_quiet_below (by kernel_rfl) (by kernel_rfl) ?_
    repeat (quiet_step (first | (with_reducible exact q0 _ _) | (with_reducible exact q1 _ _)))
    refine wpQuiet_nil ?_
    intro _ hw'
    obtain ⟨⟨dq, osq⟩, hw''⟩ := hw'
    subst hw''
    clear fa0 fa1 fa2 fa3 fa4 fb0 fb1 fb2 fb3 fb4 fc0 fc1 fc2 fc3 fc4
    have hb := below_regrown w5_ dq osq
    have Ka := Lib.hid (Ha.out.below hb)
    have Kb := Lib.hid (Hb.out.below hb)
    have Kc := Lib.hid (Hc.out.below hb)
    have KBel := Lib.hid (bel_trans HBel.out hb)
    have KTab := Lib.hid (HTab.out.below hb)
    clear hb HBel HTab Ha Hb Hc q0 q1
    generalize Go.Sort.grow (redrawn w5_ dq) osq = w6_ at *
    have Ha := Ka
    have Hb := Kb
    have Hc := Kc
    have HBel := KBel
    have HTab := KTab
    clear KBel KTab Ka Kb Kc
    have fa0 := Ha.out.c0
    have fa1 := Ha.out.c1
    have fa2 := Ha.out.c2
    have fa3 := Ha.out.c3
    have fa4 := Ha.out.lt
    have fb0 := Hb.out.c0
    have fb1 := Hb.out.c1
    have fb2 := Hb.out.c2
    have fb3 := Hb.out.c3
    have fb4 := Hb.out.lt
    have fc0 := Hc.out.c0
    have fc1 := Hc.out.c1
    have fc2 := Hc.out.c2
    have fc3 := Hc.out.c3
    have fc4 := Hc.out.lt
    go_wp2_with fail
    go_ret
    exact ⟨rfl, HBel.out⟩
end Go.Proofs.YtdfgpaoehikdpabDoor.Cell
