/- The law CellMorgan: its walk. -/
import Derived.Test.YtdfgpaoehikdpabDoorCellX
namespace Go.Proofs.YtdfgpaoehikdpabDoor.Cell
open Go.RowKit Go.Proofs.YtdfgpaoehikdpabDoor.Nums
set_option linter.unusedVariables false
set_option maxRecDepth 100000

theorem CellMorgan_walk (k1 i1 : Int) (s1 : ByteArray) (b1 : Bool) (k2 i2 : Int) (s2 : ByteArray) (b2 : Bool) (hs1 : s1.size ≤ maxLen) (hs2 : s2.size ≤ maxLen) (w : World) (hT : Tabs w) :
    Calls Tryd.prog 7 #[.agg #[.int .u8 k1, .int .i64 i1, .string s1, .bool b1], .agg #[.int .u8 k2, .int .i64 i2, .string s2, .bool b2]] w fun e w' => e = .returned (.bool true) ∧ Below w.heap.size w w' := by
  have HBel : Hid (Below w.heap.size w w) := Lib.hid (Below.refl _ _)
  have HTab := Lib.hid hT
  clear hT
  have R1 := Lib.hid (fun w => right_any k1 i1 s1 b1 hs1 w)
  have R2 := Lib.hid (fun w => right_any k2 i2 s2 b2 hs2 w)
  clear hs1 hs2
  go_enter Tryd.func7, Tryd.ntmps7
  go_wp2_with fail
  have Ga : Hid (Box ((w.alloc (.cells #[.int .u8 k1, .int .i64 i1, .string s1, .bool b1] 24)).alloc (.cells #[.int .u8 k2, .int .i64 i2, .string s2, .bool b2] 24)) (w.heap.size) k1 i1 s1 b1) := Lib.hid (box_up (box_new w k1 i1 s1 b1) _)
  have Gb : Hid (Box ((w.alloc (.cells #[.int .u8 k1, .int .i64 i1, .string s1, .bool b1] 24)).alloc (.cells #[.int .u8 k2, .int .i64 i2, .string s2, .bool b2] 24)) (w.heap.size + 1) k2 i2 s2 b2) := Lib.hid (by have h := box_new (w.alloc (.cells #[.int .u8 k1, .int .i64 i1, .string s1, .bool b1] 24)) k2 i2 s2 b2; rw [size_alloc] at h; exact h)
  have GBel : Hid (Below w.heap.size w ((w.alloc (.cells #[.int .u8 k1, .int .i64 i1, .string s1, .bool b1] 24)).alloc (.cells #[.int .u8 k2, .int .i64 i2, .string s2, .bool b2] 24))) := Lib.hid (bel_alloc2 (bel_alloc2 HBel.out _) _)
  have GTab : Hid (Tabs ((w.alloc (.cells #[.int .u8 k1, .int .i64 i1, .string s1, .bool b1] 24)).alloc (.cells #[.int .u8 k2, .int .i64 i2, .string s2, .bool b2] 24))) := Lib.hid ((HTab.out.below (bel_alloc _ _)).below (bel_alloc _ _))
  refine (awake_any _ GTab.out).mono ?_
  rintro e w1_ ⟨rfl, hb⟩
  have Ka := Lib.hid (Ga.out.below hb)
  have Kb := Lib.hid (Gb.out.below hb)
  have KBel := Lib.hid (bel_trans GBel.out hb)
  have KTab := Lib.hid (GTab.out.below hb)
  clear hb  HBel HTab Ga Gb GBel GTab
  skip
  have Ha := Ka
  have Hb := Kb
  have HBel := KBel
  have HTab := KTab
  clear KBel KTab Ka Kb
  have fa0 := Ha.out.c0
  have fa1 := Ha.out.c1
  have fa2 := Ha.out.c2
  have fa3 := Ha.out.c3
  have fa4 := Ha.out.lt
  have fb0 := Hb.out.c0
  have fb1 := Hb.out.c1
  have fb2 := Hb.out.c2
  have fb3 := Hb.out.c3
  have fb4 := Hb.out.lt
  go_wp2_with fail
  clear fa0 fa1 fa2 fa3 fa4 fb0 fb1 fb2 fb3 fb4
  have Ga : Hid (Box w1_ (w.heap.size) k1 i1 s1 b1) := Lib.hid Ha.out
  have Gb : Hid (Box w1_ (w.heap.size + 1) k2 i2 s2 b2) := Lib.hid Hb.out
  have GBel : Hid (Below w.heap.size w w1_) := Lib.hid HBel.out
  have GTab : Hid (Tabs w1_) := Lib.hid HTab.out
  refine (R1.out _).mono ?_
  rintro e w2_ ⟨r, rfl, hb, hv⟩
  have Ka := Lib.hid (Ga.out.below hb)
  have Kb := Lib.hid (Gb.out.below hb)
  have KBel := Lib.hid (bel_trans GBel.out hb)
  have KTab := Lib.hid (GTab.out.below hb)
  clear hb Ha Hb HBel HTab Ga Gb GBel GTab
  try clear fa0 fa1 fa2 fa3 fa4 fb0 fb1 fb2 fb3 fb4
  have Ha := Ka
  have Hb := Kb
  have HBel := KBel
  have HTab := KTab
  clear KBel KTab Ka Kb
  have fa0 := Ha.out.c0
  have fa1 := Ha.out.c1
  have fa2 := Ha.out.c2
  have fa3 := Ha.out.c3
  have fa4 := Ha.out.lt
  have fb0 := Hb.out.c0
  have fb1 := Hb.out.c1
  have fb2 := Hb.out.c2
  have fb3 := Hb.out.c3
  have fb4 := Hb.out.lt
  have HRv1 := Lib.hid hv
  clear hv R1
  cases r
  case false =>
    go_wp2_with fail
    go_ret
    exact ⟨rfl, HBel.out⟩
  go_wp2_with fail
  clear fa0 fa1 fa2 fa3 fa4 fb0 fb1 fb2 fb3 fb4
  have Ga : Hid (Box w2_ (w.heap.size) k1 i1 s1 b1) := Lib.hid Ha.out
  have Gb : Hid (Box w2_ (w.heap.size + 1) k2 i2 s2 b2) := Lib.hid Hb.out
  have GBel : Hid (Below w.heap.size w w2_) := Lib.hid HBel.out
  have GTab : Hid (Tabs w2_) := Lib.hid HTab.out
  refine (R2.out _).mono ?_
  rintro e w3_ ⟨r, rfl, hb, hv⟩
  have Ka := Lib.hid (Ga.out.below hb)
  have Kb := Lib.hid (Gb.out.below hb)
  have KBel := Lib.hid (bel_trans GBel.out hb)
  have KTab := Lib.hid (GTab.out.below hb)
  clear hb Ha Hb HBel HTab Ga Gb GBel GTab
  try clear fa0 fa1 fa2 fa3 fa4 fb0 fb1 fb2 fb3 fb4
  have Ha := Ka
  have Hb := Kb
  have HBel := KBel
  have HTab := KTab
  clear KBel KTab Ka Kb
  have fa0 := Ha.out.c0
  have fa1 := Ha.out.c1
  have fa2 := Ha.out.c2
  have fa3 := Ha.out.c3
  have fa4 := Ha.out.lt
  have fb0 := Hb.out.c0
  have fb1 := Hb.out.c1
  have fb2 := Hb.out.c2
  have fb3 := Hb.out.c3
  have fb4 := Hb.out.lt
  have HRv2 := Lib.hid hv
  clear hv R2
  cases r
  case false =>
    go_wp2_with fail
    go_ret
    exact ⟨rfl, HBel.out⟩
  go_wp2_with fail
  clear fa0 fa1 fa2 fa3 fa4 fb0 fb1 fb2 fb3 fb4
  cases ht : (isT (openV k1 i1 s1 b1) && isT (openV k2 i2 s2 b2))
  case false =>
    have Ga : Hid (Box w3_ (w.heap.size) k1 i1 s1 b1) := Lib.hid Ha.out
    have Gb : Hid (Box w3_ (w.heap.size + 1) k2 i2 s2 b2) := Lib.hid Hb.out
    have GBel : Hid (Below w.heap.size w w3_) := Lib.hid HBel.out
    have GTab : Hid (Tabs w3_) := Lib.hid HTab.out
    refine (and_N k1 i1 s1 b1 k2 i2 s2 b2 ht _).mono ?_
    rintro e w4_ ⟨rfl, hb⟩
    have Ka := Lib.hid (Ga.out.below hb)
    have Kb := Lib.hid (Gb.out.below hb)
    have KBel := Lib.hid (bel_trans GBel.out hb)
    have KTab := Lib.hid (GTab.out.below hb)
    clear hb Ha Hb HBel HTab Ga Gb GBel GTab
    try clear fa0 fa1 fa2 fa3 fa4 fb0 fb1 fb2 fb3 fb4
    have Ha := Ka
    have Hb := Kb
    have HBel := KBel
    have HTab := KTab
    clear KBel KTab Ka Kb
    have fa0 := Ha.out.c0
    have fa1 := Ha.out.c1
    have fa2 := Ha.out.c2
    have fa3 := Ha.out.c3
    have fa4 := Ha.out.lt
    have fb0 := Hb.out.c0
    have fb1 := Hb.out.c1
    have fb2 := Hb.out.c2
    have fb3 := Hb.out.c3
    have fb4 := Hb.out.lt
    go_wp2_with fail
    go_ret
    exact ⟨rfl, (bel_alloc2 HBel.out _)⟩
  obtain ⟨ht1, ht2⟩ := (Bool.and_eq_true _ _).mp ht
  obtain ⟨t1, ho1⟩ := isT_ot ht1
  obtain ⟨t2, ho2⟩ := isT_ot ht2
  clear ht ht1 ht2
  have C1 := Lib.hid (fun w => and_T k1 i1 s1 b1 k2 i2 s2 b2 t1 t2 ho1 ho2 w)
  have C2 := Lib.hid (fun w => not_T (tK (andT t1 t2)) 0 ⟨#[]⟩ (tB (andT t1 t2)) (andT t1 t2) (open_ot _) w)
  have C3 := Lib.hid (fun w => not_T k1 i1 s1 b1 t1 ho1 w)
  have C4 := Lib.hid (fun w => not_T k2 i2 s2 b2 t2 ho2 w)
  have C5 := Lib.hid (fun w => or_T (tK (notT t1)) 0 ⟨#[]⟩ (tB (notT t1)) (tK (notT t2)) 0 ⟨#[]⟩ (tB (notT t2)) (notT t1) (notT t2) (open_ot _) (open_ot _) w)
  rw [← morganT] at C5
  generalize tK (andT t1 t2) = ka at *
  generalize tB (andT t1 t2) = ba at *
  generalize tK (notT (andT t1 t2)) = kn at *
  generalize tB (notT (andT t1 t2)) = bn at *
  generalize tK (notT t1) = n1 at *
  generalize tB (notT t1) = m1 at *
  generalize tK (notT t2) = n2 at *
  generalize tB (notT t2) = m2 at *
  clear ho1 ho2
  have Ga : Hid (Box w3_ (w.heap.size) k1 i1 s1 b1) := Lib.hid Ha.out
  have Gb : Hid (Box w3_ (w.heap.size + 1) k2 i2 s2 b2) := Lib.hid Hb.out
  have GBel : Hid (Below w.heap.size w w3_) := Lib.hid HBel.out
  have GTab : Hid (Tabs w3_) := Lib.hid HTab.out
  refine (C1.out _).mono ?_
  rintro e w4_ ⟨rfl, hb⟩
  have Ka := Lib.hid (Ga.out.below hb)
  have Kb := Lib.hid (Gb.out.below hb)
  have KBel := Lib.hid (bel_trans GBel.out hb)
  have KTab := Lib.hid (GTab.out.below hb)
  clear hb Ha Hb HBel HTab Ga Gb GBel GTab
  try clear fa0 fa1 fa2 fa3 fa4 fb0 fb1 fb2 fb3 fb4
  have Ha := Ka
  have Hb := Kb
  have HBel := KBel
  have HTab := KTab
  clear KBel KTab Ka Kb
  have fa0 := Ha.out.c0
  have fa1 := Ha.out.c1
  have fa2 := Ha.out.c2
  have fa3 := Ha.out.c3
  have fa4 := Ha.out.lt
  have fb0 := Hb.out.c0
  have fb1 := Hb.out.c1
  have fb2 := Hb.out.c2
  have fb3 := Hb.out.c3
  have fb4 := Hb.out.lt
  go_wp2_with fail
  have Ga : Hid (Box (w4_.alloc (.cells #[.int .u8 ka, .int .i64 0, .string ⟨#[]⟩, .bool ba] 24)) (w.heap.size) k1 i1 s1 b1) := Lib.hid (box_up Ha.out _)
  have Gb : Hid (Box (w4_.alloc (.cells #[.int .u8 ka, .int .i64 0, .string ⟨#[]⟩, .bool ba] 24)) (w.heap.size + 1) k2 i2 s2 b2) := Lib.hid (box_up Hb.out _)
  have Gx : Hid (Box (w4_.alloc (.cells #[.int .u8 ka, .int .i64 0, .string ⟨#[]⟩, .bool ba] 24)) (w4_.heap.size) ka 0 ⟨#[]⟩ ba) := Lib.hid (box_new w4_ ka 0 ⟨#[]⟩ ba)
  have GBel : Hid (Below w.heap.size w (w4_.alloc (.cells #[.int .u8 ka, .int .i64 0, .string ⟨#[]⟩, .bool ba] 24))) := Lib.hid (bel_alloc2 HBel.out _)
  have GTab : Hid (Tabs (w4_.alloc (.cells #[.int .u8 ka, .int .i64 0, .string ⟨#[]⟩, .bool ba] 24))) := Lib.hid (HTab.out.below (bel_alloc _ _))
  refine (C2.out _).mono ?_
  rintro e w5_ ⟨rfl, hb⟩
  have Ka := Lib.hid (Ga.out.below hb)
  have Kb := Lib.hid (Gb.out.below hb)
  have Kx := Lib.hid (Gx.out.below hb)
  have KBel := Lib.hid (bel_trans GBel.out hb)
  have KTab := Lib.hid (GTab.out.below hb)
  clear hb Ha Hb HBel HTab Ga Gb Gx GBel GTab
  try clear fa0 fa1 fa2 fa3 fa4 fb0 fb1 fb2 fb3 fb4
  have Ha := Ka
  have Hb := Kb
  have Hx := Kx
  have HBel := KBel
  have HTab := KTab
  clear KBel KTab Ka Kb Kx
  have fa0 := Ha.out.c0
  have fa1 := Ha.out.c1
  have fa2 := Ha.out.c2
  have fa3 := Ha.out.c3
  have fa4 := Ha.out.lt
  have fb0 := Hb.out.c0
  have fb1 := Hb.out.c1
  have fb2 := Hb.out.c2
  have fb3 := Hb.out.c3
  have fb4 := Hb.out.lt
  have fx0 := Hx.out.c0
  have fx1 := Hx.out.c1
  have fx2 := Hx.out.c2
  have fx3 := Hx.out.c3
  have fx4 := Hx.out.lt
  go_wp2_with fail
  have Ga : Hid (Box (w5_.alloc (.cells #[.int .u8 kn, .int .i64 0, .string ⟨#[]⟩, .bool bn] 24)) (w.heap.size) k1 i1 s1 b1) := Lib.hid (box_up Ha.out _)
  have Gb : Hid (Box (w5_.alloc (.cells #[.int .u8 kn, .int .i64 0, .string ⟨#[]⟩, .bool bn] 24)) (w.heap.size + 1) k2 i2 s2 b2) := Lib.hid (box_up Hb.out _)
  have Gx : Hid (Box (w5_.alloc (.cells #[.int .u8 kn, .int .i64 0, .string ⟨#[]⟩, .bool bn] 24)) (w4_.heap.size) ka 0 ⟨#[]⟩ ba) := Lib.hid (box_up Hx.out _)
  have Gn : Hid (Box (w5_.alloc (.cells #[.int .u8 kn, .int .i64 0, .string ⟨#[]⟩, .bool bn] 24)) (w5_.heap.size) kn 0 ⟨#[]⟩ bn) := Lib.hid (box_new w5_ kn 0 ⟨#[]⟩ bn)
  have GBel : Hid (Below w.heap.size w (w5_.alloc (.cells #[.int .u8 kn, .int .i64 0, .string ⟨#[]⟩, .bool bn] 24))) := Lib.hid (bel_alloc2 HBel.out _)
  have GTab : Hid (Tabs (w5_.alloc (.cells #[.int .u8 kn, .int .i64 0, .string ⟨#[]⟩, .bool bn] 24))) := Lib.hid (HTab.out.below (bel_alloc _ _))
  refine (C3.out _).mono ?_
  rintro e w6_ ⟨rfl, hb⟩
  have Ka := Lib.hid (Ga.out.below hb)
  have Kb := Lib.hid (Gb.out.below hb)
  have Kx := Lib.hid (Gx.out.below hb)
  have Kn := Lib.hid (Gn.out.below hb)
  have KBel := Lib.hid (bel_trans GBel.out hb)
  have KTab := Lib.hid (GTab.out.below hb)
  clear hb Ha Hb Hx HBel HTab Ga Gb Gx Gn GBel GTab
  try clear fa0 fa1 fa2 fa3 fa4 fb0 fb1 fb2 fb3 fb4 fx0 fx1 fx2 fx3 fx4
  have Ha := Ka
  have Hb := Kb
  have Hx := Kx
  have Hn := Kn
  have HBel := KBel
  have HTab := KTab
  clear KBel KTab Ka Kb Kx Kn
  have fa0 := Ha.out.c0
  have fa1 := Ha.out.c1
  have fa2 := Ha.out.c2
  have fa3 := Ha.out.c3
  have fa4 := Ha.out.lt
  have fb0 := Hb.out.c0
  have fb1 := Hb.out.c1
  have fb2 := Hb.out.c2
  have fb3 := Hb.out.c3
  have fb4 := Hb.out.lt
  have fx0 := Hx.out.c0
  have fx1 := Hx.out.c1
  have fx2 := Hx.out.c2
  have fx3 := Hx.out.c3
  have fx4 := Hx.out.lt
  have fn0 := Hn.out.c0
  have fn1 := Hn.out.c1
  have fn2 := Hn.out.c2
  have fn3 := Hn.out.c3
  have fn4 := Hn.out.lt
  go_wp2_with fail
  have Ga : Hid (Box (w6_.alloc (.cells #[.int .u8 n1, .int .i64 0, .string ⟨#[]⟩, .bool m1] 24)) (w.heap.size) k1 i1 s1 b1) := Lib.hid (box_up Ha.out _)
  have Gb : Hid (Box (w6_.alloc (.cells #[.int .u8 n1, .int .i64 0, .string ⟨#[]⟩, .bool m1] 24)) (w.heap.size + 1) k2 i2 s2 b2) := Lib.hid (box_up Hb.out _)
  have Gx : Hid (Box (w6_.alloc (.cells #[.int .u8 n1, .int .i64 0, .string ⟨#[]⟩, .bool m1] 24)) (w4_.heap.size) ka 0 ⟨#[]⟩ ba) := Lib.hid (box_up Hx.out _)
  have Gn : Hid (Box (w6_.alloc (.cells #[.int .u8 n1, .int .i64 0, .string ⟨#[]⟩, .bool m1] 24)) (w5_.heap.size) kn 0 ⟨#[]⟩ bn) := Lib.hid (box_up Hn.out _)
  have Gp : Hid (Box (w6_.alloc (.cells #[.int .u8 n1, .int .i64 0, .string ⟨#[]⟩, .bool m1] 24)) (w6_.heap.size) n1 0 ⟨#[]⟩ m1) := Lib.hid (box_new w6_ n1 0 ⟨#[]⟩ m1)
  have GBel : Hid (Below w.heap.size w (w6_.alloc (.cells #[.int .u8 n1, .int .i64 0, .string ⟨#[]⟩, .bool m1] 24))) := Lib.hid (bel_alloc2 HBel.out _)
  have GTab : Hid (Tabs (w6_.alloc (.cells #[.int .u8 n1, .int .i64 0, .string ⟨#[]⟩, .bool m1] 24))) := Lib.hid (HTab.out.below (bel_alloc _ _))
  refine (C4.out _).mono ?_
  rintro e w7_ ⟨rfl, hb⟩
  have Ka := Lib.hid (Ga.out.below hb)
  have Kb := Lib.hid (Gb.out.below hb)
  have Kx := Lib.hid (Gx.out.below hb)
  have Kn := Lib.hid (Gn.out.below hb)
  have Kp := Lib.hid (Gp.out.below hb)
  have KBel := Lib.hid (bel_trans GBel.out hb)
  have KTab := Lib.hid (GTab.out.below hb)
  clear hb Ha Hb Hx Hn HBel HTab Ga Gb Gx Gn Gp GBel GTab
  try clear fa0 fa1 fa2 fa3 fa4 fb0 fb1 fb2 fb3 fb4 fx0 fx1 fx2 fx3 fx4 fn0 fn1 fn2 fn3 fn4
  have Ha := Ka
  have Hb := Kb
  have Hx := Kx
  have Hn := Kn
  have Hp := Kp
  have HBel := KBel
  have HTab := KTab
  clear KBel KTab Ka Kb Kx Kn Kp
  have fa0 := Ha.out.c0
  have fa1 := Ha.out.c1
  have fa2 := Ha.out.c2
  have fa3 := Ha.out.c3
  have fa4 := Ha.out.lt
  have fb0 := Hb.out.c0
  have fb1 := Hb.out.c1
  have fb2 := Hb.out.c2
  have fb3 := Hb.out.c3
  have fb4 := Hb.out.lt
  have fx0 := Hx.out.c0
  have fx1 := Hx.out.c1
  have fx2 := Hx.out.c2
  have fx3 := Hx.out.c3
  have fx4 := Hx.out.lt
  have fn0 := Hn.out.c0
  have fn1 := Hn.out.c1
  have fn2 := Hn.out.c2
  have fn3 := Hn.out.c3
  have fn4 := Hn.out.lt
  have fp0 := Hp.out.c0
  have fp1 := Hp.out.c1
  have fp2 := Hp.out.c2
  have fp3 := Hp.out.c3
  have fp4 := Hp.out.lt
  go_wp2_with fail
  have Ga : Hid (Box (w7_.alloc (.cells #[.int .u8 n2, .int .i64 0, .string ⟨#[]⟩, .bool m2] 24)) (w.heap.size) k1 i1 s1 b1) := Lib.hid (box_up Ha.out _)
  have Gb : Hid (Box (w7_.alloc (.cells #[.int .u8 n2, .int .i64 0, .string ⟨#[]⟩, .bool m2] 24)) (w.heap.size + 1) k2 i2 s2 b2) := Lib.hid (box_up Hb.out _)
  have Gx : Hid (Box (w7_.alloc (.cells #[.int .u8 n2, .int .i64 0, .string ⟨#[]⟩, .bool m2] 24)) (w4_.heap.size) ka 0 ⟨#[]⟩ ba) := Lib.hid (box_up Hx.out _)
  have Gn : Hid (Box (w7_.alloc (.cells #[.int .u8 n2, .int .i64 0, .string ⟨#[]⟩, .bool m2] 24)) (w5_.heap.size) kn 0 ⟨#[]⟩ bn) := Lib.hid (box_up Hn.out _)
  have Gp : Hid (Box (w7_.alloc (.cells #[.int .u8 n2, .int .i64 0, .string ⟨#[]⟩, .bool m2] 24)) (w6_.heap.size) n1 0 ⟨#[]⟩ m1) := Lib.hid (box_up Hp.out _)
  have Gq : Hid (Box (w7_.alloc (.cells #[.int .u8 n2, .int .i64 0, .string ⟨#[]⟩, .bool m2] 24)) (w7_.heap.size) n2 0 ⟨#[]⟩ m2) := Lib.hid (box_new w7_ n2 0 ⟨#[]⟩ m2)
  have GBel : Hid (Below w.heap.size w (w7_.alloc (.cells #[.int .u8 n2, .int .i64 0, .string ⟨#[]⟩, .bool m2] 24))) := Lib.hid (bel_alloc2 HBel.out _)
  have GTab : Hid (Tabs (w7_.alloc (.cells #[.int .u8 n2, .int .i64 0, .string ⟨#[]⟩, .bool m2] 24))) := Lib.hid (HTab.out.below (bel_alloc _ _))
  refine (C5.out _).mono ?_
  rintro e w8_ ⟨rfl, hb⟩
  have Ka := Lib.hid (Ga.out.below hb)
  have Kb := Lib.hid (Gb.out.below hb)
  have Kx := Lib.hid (Gx.out.below hb)
  have Kn := Lib.hid (Gn.out.below hb)
  have Kp := Lib.hid (Gp.out.below hb)
  have Kq := Lib.hid (Gq.out.below hb)
  have KBel := Lib.hid (bel_trans GBel.out hb)
  have KTab := Lib.hid (GTab.out.below hb)
  clear hb Ha Hb Hx Hn Hp HBel HTab Ga Gb Gx Gn Gp Gq GBel GTab
  try clear fa0 fa1 fa2 fa3 fa4 fb0 fb1 fb2 fb3 fb4 fx0 fx1 fx2 fx3 fx4 fn0 fn1 fn2 fn3 fn4 fp0 fp1 fp2 fp3 fp4
  have Ha := Ka
  have Hb := Kb
  have Hx := Kx
  have Hn := Kn
  have Hp := Kp
  have Hq := Kq
  have HBel := KBel
  have HTab := KTab
  clear KBel KTab Ka Kb Kx Kn Kp Kq
  have fa0 := Ha.out.c0
  have fa1 := Ha.out.c1
  have fa2 := Ha.out.c2
  have fa3 := Ha.out.c3
  have fa4 := Ha.out.lt
  have fb0 := Hb.out.c0
  have fb1 := Hb.out.c1
  have fb2 := Hb.out.c2
  have fb3 := Hb.out.c3
  have fb4 := Hb.out.lt
  have fx0 := Hx.out.c0
  have fx1 := Hx.out.c1
  have fx2 := Hx.out.c2
  have fx3 := Hx.out.c3
  have fx4 := Hx.out.lt
  have fn0 := Hn.out.c0
  have fn1 := Hn.out.c1
  have fn2 := Hn.out.c2
  have fn3 := Hn.out.c3
  have fn4 := Hn.out.lt
  have fp0 := Hp.out.c0
  have fp1 := Hp.out.c1
  have fp2 := Hp.out.c2
  have fp3 := Hp.out.c3
  have fp4 := Hp.out.lt
  have fq0 := Hq.out.c0
  have fq1 := Hq.out.c1
  have fq2 := Hq.out.c2
  have fq3 := Hq.out.c3
  have fq4 := Hq.out.lt
  go_wp2_with fail
  go_ret
  exact ⟨rfl, (bel_alloc2 HBel.out _)⟩
end Go.Proofs.YtdfgpaoehikdpabDoor.Cell
