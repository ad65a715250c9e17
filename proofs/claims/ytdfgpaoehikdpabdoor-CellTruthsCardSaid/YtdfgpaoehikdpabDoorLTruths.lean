/- The law CellTruths: its walk. -/
import Derived.Test.YtdfgpaoehikdpabDoorCellO
namespace Go.Proofs.YtdfgpaoehikdpabDoor.Cell
open Go.RowKit Go.Proofs.YtdfgpaoehikdpabDoor.Nums
set_option linter.unusedVariables false
set_option maxRecDepth 100000

theorem CellTruths_walk (k1 i1 : Int) (s1 : ByteArray) (b1 : Bool) (k2 i2 : Int) (s2 : ByteArray) (b2 : Bool) (hs1 : s1.size ≤ maxLen) (hs2 : s2.size ≤ maxLen) (w : World) (hT : Tabs w) :
    Calls Tryd.prog 6 #[.agg #[.int .u8 k1, .int .i64 i1, .string s1, .bool b1], .agg #[.int .u8 k2, .int .i64 i2, .string s2, .bool b2]] w fun e w' => e = .returned (.bool true) ∧ Below w.heap.size w w' := by
  have HBel : Hid (Below w.heap.size w w) := Lib.hid (Below.refl _ _)
  have HTab := Lib.hid hT
  clear hT
  have R1 := Lib.hid (fun w => right_any k1 i1 s1 b1 hs1 w)
  have R2 := Lib.hid (fun w => right_any k2 i2 s2 b2 hs2 w)
  clear hs1 hs2
  go_enter Tryd.func6, Tryd.ntmps6
  go_wp2_with fail
  have Ga : Hid (Box ((w.alloc (.cells #[.int .u8 k1, .int .i64 i1, .string s1, .bool b1] 24)).alloc (.cells #[.int .u8 k2, .int .i64 i2, .string s2, .bool b2] 24)) (w.heap.size) k1 i1 s1 b1) := Lib.hid (box_up (box_new w k1 i1 s1 b1) _)
  have Gb : Hid (Box ((w.alloc (.cells #[.int .u8 k1, .int .i64 i1, .string s1, .bool b1] 24)).alloc (.cells #[.int .u8 k2, .int .i64 i2, .string s2, .bool b2] 24)) (w.heap.size + 1) k2 i2 s2 b2) := Lib.hid (by have h := box_new (w.alloc (.cells #[.int .u8 k1, .int .i64 i1, .string s1, .bool b1] 24)) k2 i2 s2 b2; rw [size_alloc] at h; exact h)
  have GBel : Hid (Below w.heap.size w ((w.alloc (.cells #[.int .u8 k1, .int .i64 i1, .string s1, .bool b1] 24)).alloc (.cells #[.int .u8 k2, .int .i64 i2, .string s2, .bool b2] 24))) := Lib.hid (bel_alloc2 (bel_alloc2 HBel.out _) _)
  have GTab : Hid (Tabs ((w.alloc (.cells #[.int .u8 k1, .int .i64 i1, .string s1, .bool b1] 24)).alloc (.cells #[.int .u8 k2, .int .i64 i2, .string s2, .bool b2] 24))) := Lib.hid ((HTab.out.below (bel_alloc _ _)).below (bel_alloc _ _))
  refine (awake_any _ GTab.out).mono ?_
  rintro e w1_ ⟨rfl, hb⟩
  have Ka := Lib.hid (Ga.out.below hb)
  have Kb := Lib.hid (Gb.out.below hb)
  have KBel := Lib.hid (bel_trans GBel.out hb)
  have KTab := Lib.hid (GTab.out.below hb)
  clear hb  HBel HTab Ga Gb GBel GTab
  skip
  have Ha := Ka
  have Hb := Kb
  have HBel := KBel
  have HTab := KTab
  clear KBel KTab Ka Kb
  have fa0 := Ha.out.c0
  have fa1 := Ha.out.c1
  have fa2 := Ha.out.c2
  have fa3 := Ha.out.c3
  have fa4 := Ha.out.lt
  have fb0 := Hb.out.c0
  have fb1 := Hb.out.c1
  have fb2 := Hb.out.c2
  have fb3 := Hb.out.c3
  have fb4 := Hb.out.lt
  go_wp2_with fail
  clear fa0 fa1 fa2 fa3 fa4 fb0 fb1 fb2 fb3 fb4
  have DA1 := fun w => and_any k1 i1 s1 b1 k2 i2 s2 b2 w
  have DO1 := fun w => or_any k1 i1 s1 b1 k2 i2 s2 b2 w
  have DN1 := fun w => not_any k1 i1 s1 b1 w
  have DA2 := fun w => andR_any k1 i1 s1 b1 k2 i2 s2 b2 w
  have DO2 := fun w => orR_any k1 i1 s1 b1 k2 i2 s2 b2 w
  have DN2 := fun w => notR_any k1 i1 s1 b1 w
  simp only [(and_doc k1 i1 s1 b1 k2 i2 s2 b2).1, (and_doc k1 i1 s1 b1 k2 i2 s2 b2).2.1, (and_doc k1 i1 s1 b1 k2 i2 s2 b2).2.2] at DA2
  simp only [(or_doc k1 i1 s1 b1 k2 i2 s2 b2).1, (or_doc k1 i1 s1 b1 k2 i2 s2 b2).2.1, (or_doc k1 i1 s1 b1 k2 i2 s2 b2).2.2] at DO2
  simp only [(not_doc k1 i1 s1 b1).1, (not_doc k1 i1 s1 b1).2.1, (not_doc k1 i1 s1 b1).2.2] at DN2
  generalize joinK (openV k1 i1 s1 b1) (openV k2 i2 s2 b2) false = ka at *
  generalize joinB (openV k1 i1 s1 b1) (openV k2 i2 s2 b2) false = ba at *
  generalize joinE (openV k1 i1 s1 b1) (openV k2 i2 s2 b2) = ea at *
  generalize joinK (openV k1 i1 s1 b1) (openV k2 i2 s2 b2) true = ko at *
  generalize joinB (openV k1 i1 s1 b1) (openV k2 i2 s2 b2) true = bo at *
  generalize notK (openV k1 i1 s1 b1) = kn at *
  generalize notB (openV k1 i1 s1 b1) = bn at *
  generalize notE (openV k1 i1 s1 b1) = en at *
  have DA1h := Lib.hid DA1
  have DO1h := Lib.hid DO1
  have DN1h := Lib.hid DN1
  have DA2h := Lib.hid DA2
  have DO2h := Lib.hid DO2
  have DN2h := Lib.hid DN2
  clear DA1 DO1 DN1 DA2 DO2 DN2
  have Ga : Hid (Box w1_ (w.heap.size) k1 i1 s1 b1) := Lib.hid Ha.out
  have Gb : Hid (Box w1_ (w.heap.size + 1) k2 i2 s2 b2) := Lib.hid Hb.out
  have GBel : Hid (Below w.heap.size w w1_) := Lib.hid HBel.out
  have GTab : Hid (Tabs w1_) := Lib.hid HTab.out
  refine (R1.out _).mono ?_
  rintro e w2_ ⟨r, rfl, hb, hv⟩
  have Ka := Lib.hid (Ga.out.below hb)
  have Kb := Lib.hid (Gb.out.below hb)
  have KBel := Lib.hid (bel_trans GBel.out hb)
  have KTab := Lib.hid (GTab.out.below hb)
  clear hb Ha Hb HBel HTab Ga Gb GBel GTab
  try clear fa0 fa1 fa2 fa3 fa4 fb0 fb1 fb2 fb3 fb4
  have Ha := Ka
  have Hb := Kb
  have HBel := KBel
  have HTab := KTab
  clear KBel KTab Ka Kb
  have fa0 := Ha.out.c0
  have fa1 := Ha.out.c1
  have fa2 := Ha.out.c2
  have fa3 := Ha.out.c3
  have fa4 := Ha.out.lt
  have fb0 := Hb.out.c0
  have fb1 := Hb.out.c1
  have fb2 := Hb.out.c2
  have fb3 := Hb.out.c3
  have fb4 := Hb.out.lt
  have HRv1 := Lib.hid hv
  clear hv R1
  cases r
  case false =>
    go_wp2_with fail
    have Ga : Hid (Box w2_ (w.heap.size) k1 i1 s1 b1) := Lib.hid Ha.out
    have Gb : Hid (Box w2_ (w.heap.size + 1) k2 i2 s2 b2) := Lib.hid Hb.out
    have GBel : Hid (Below w.heap.size w w2_) := Lib.hid HBel.out
    have GTab : Hid (Tabs w2_) := Lib.hid HTab.out
    refine (DA1h.out _).mono ?_
    rintro e w3_ ⟨rfl, hb⟩
    have Ka := Lib.hid (Ga.out.below hb)
    have Kb := Lib.hid (Gb.out.below hb)
    have KBel := Lib.hid (bel_trans GBel.out hb)
    have KTab := Lib.hid (GTab.out.below hb)
    clear hb Ha Hb HBel HTab Ga Gb GBel GTab
    try clear fa0 fa1 fa2 fa3 fa4 fb0 fb1 fb2 fb3 fb4
    have Ha := Ka
    have Hb := Kb
    have HBel := KBel
    have HTab := KTab
    clear KBel KTab Ka Kb
    have fa0 := Ha.out.c0
    have fa1 := Ha.out.c1
    have fa2 := Ha.out.c2
    have fa3 := Ha.out.c3
    have fa4 := Ha.out.lt
    have fb0 := Hb.out.c0
    have fb1 := Hb.out.c1
    have fb2 := Hb.out.c2
    have fb3 := Hb.out.c3
    have fb4 := Hb.out.lt
    go_wp2_with fail
    have Ga : Hid (Box w3_ (w.heap.size) k1 i1 s1 b1) := Lib.hid Ha.out
    have Gb : Hid (Box w3_ (w.heap.size + 1) k2 i2 s2 b2) := Lib.hid Hb.out
    have GBel : Hid (Below w.heap.size w w3_) := Lib.hid HBel.out
    have GTab : Hid (Tabs w3_) := Lib.hid HTab.out
    refine (DN1h.out _).mono ?_
    rintro e w4_ ⟨rfl, hb⟩
    have Ka := Lib.hid (Ga.out.below hb)
    have Kb := Lib.hid (Gb.out.below hb)
    have KBel := Lib.hid (bel_trans GBel.out hb)
    have KTab := Lib.hid (GTab.out.below hb)
    clear hb Ha Hb HBel HTab Ga Gb GBel GTab
    try clear fa0 fa1 fa2 fa3 fa4 fb0 fb1 fb2 fb3 fb4
    have Ha := Ka
    have Hb := Kb
    have HBel := KBel
    have HTab := KTab
    clear KBel KTab Ka Kb
    have fa0 := Ha.out.c0
    have fa1 := Ha.out.c1
    have fa2 := Ha.out.c2
    have fa3 := Ha.out.c3
    have fa4 := Ha.out.lt
    have fb0 := Hb.out.c0
    have fb1 := Hb.out.c1
    have fb2 := Hb.out.c2
    have fb3 := Hb.out.c3
    have fb4 := Hb.out.lt
    go_wp2_with fail
    go_ret
    exact ⟨rfl, HBel.out⟩
  go_wp2_with fail
  clear fa0 fa1 fa2 fa3 fa4 fb0 fb1 fb2 fb3 fb4
  have Ga : Hid (Box w2_ (w.heap.size) k1 i1 s1 b1) := Lib.hid Ha.out
  have Gb : Hid (Box w2_ (w.heap.size + 1) k2 i2 s2 b2) := Lib.hid Hb.out
  have GBel : Hid (Below w.heap.size w w2_) := Lib.hid HBel.out
  have GTab : Hid (Tabs w2_) := Lib.hid HTab.out
  refine (R2.out _).mono ?_
  rintro e w3_ ⟨r, rfl, hb, hv⟩
  have Ka := Lib.hid (Ga.out.below hb)
  have Kb := Lib.hid (Gb.out.below hb)
  have KBel := Lib.hid (bel_trans GBel.out hb)
  have KTab := Lib.hid (GTab.out.below hb)
  clear hb Ha Hb HBel HTab Ga Gb GBel GTab
  try clear fa0 fa1 fa2 fa3 fa4 fb0 fb1 fb2 fb3 fb4
  have Ha := Ka
  have Hb := Kb
  have HBel := KBel
  have HTab := KTab
  clear KBel KTab Ka Kb
  have fa0 := Ha.out.c0
  have fa1 := Ha.out.c1
  have fa2 := Ha.out.c2
  have fa3 := Ha.out.c3
  have fa4 := Ha.out.lt
  have fb0 := Hb.out.c0
  have fb1 := Hb.out.c1
  have fb2 := Hb.out.c2
  have fb3 := Hb.out.c3
  have fb4 := Hb.out.lt
  have HRv2 := Lib.hid hv
  clear hv R2
  cases r
  case false =>
    go_wp2_with fail
    have Ga : Hid (Box w3_ (w.heap.size) k1 i1 s1 b1) := Lib.hid Ha.out
    have Gb : Hid (Box w3_ (w.heap.size + 1) k2 i2 s2 b2) := Lib.hid Hb.out
    have GBel : Hid (Below w.heap.size w w3_) := Lib.hid HBel.out
    have GTab : Hid (Tabs w3_) := Lib.hid HTab.out
    refine (DA1h.out _).mono ?_
    rintro e w4_ ⟨rfl, hb⟩
    have Ka := Lib.hid (Ga.out.below hb)
    have Kb := Lib.hid (Gb.out.below hb)
    have KBel := Lib.hid (bel_trans GBel.out hb)
    have KTab := Lib.hid (GTab.out.below hb)
    clear hb Ha Hb HBel HTab Ga Gb GBel GTab
    try clear fa0 fa1 fa2 fa3 fa4 fb0 fb1 fb2 fb3 fb4
    have Ha := Ka
    have Hb := Kb
    have HBel := KBel
    have HTab := KTab
    clear KBel KTab Ka Kb
    have fa0 := Ha.out.c0
    have fa1 := Ha.out.c1
    have fa2 := Ha.out.c2
    have fa3 := Ha.out.c3
    have fa4 := Ha.out.lt
    have fb0 := Hb.out.c0
    have fb1 := Hb.out.c1
    have fb2 := Hb.out.c2
    have fb3 := Hb.out.c3
    have fb4 := Hb.out.lt
    go_wp2_with fail
    have Ga : Hid (Box w4_ (w.heap.size) k1 i1 s1 b1) := Lib.hid Ha.out
    have Gb : Hid (Box w4_ (w.heap.size + 1) k2 i2 s2 b2) := Lib.hid Hb.out
    have GBel : Hid (Below w.heap.size w w4_) := Lib.hid HBel.out
    have GTab : Hid (Tabs w4_) := Lib.hid HTab.out
    refine (DN1h.out _).mono ?_
    rintro e w5_ ⟨rfl, hb⟩
    have Ka := Lib.hid (Ga.out.below hb)
    have Kb := Lib.hid (Gb.out.below hb)
    have KBel := Lib.hid (bel_trans GBel.out hb)
    have KTab := Lib.hid (GTab.out.below hb)
    clear hb Ha Hb HBel HTab Ga Gb GBel GTab
    try clear fa0 fa1 fa2 fa3 fa4 fb0 fb1 fb2 fb3 fb4
    have Ha := Ka
    have Hb := Kb
    have HBel := KBel
    have HTab := KTab
    clear KBel KTab Ka Kb
    have fa0 := Ha.out.c0
    have fa1 := Ha.out.c1
    have fa2 := Ha.out.c2
    have fa3 := Ha.out.c3
    have fa4 := Ha.out.lt
    have fb0 := Hb.out.c0
    have fb1 := Hb.out.c1
    have fb2 := Hb.out.c2
    have fb3 := Hb.out.c3
    have fb4 := Hb.out.lt
    go_wp2_with fail
    go_ret
    exact ⟨rfl, HBel.out⟩
  go_wp2_with fail
  clear fa0 fa1 fa2 fa3 fa4 fb0 fb1 fb2 fb3 fb4
  have Ga : Hid (Box w3_ (w.heap.size) k1 i1 s1 b1) := Lib.hid Ha.out
  have Gb : Hid (Box w3_ (w.heap.size + 1) k2 i2 s2 b2) := Lib.hid Hb.out
  have GBel : Hid (Below w.heap.size w w3_) := Lib.hid HBel.out
  have GTab : Hid (Tabs w3_) := Lib.hid HTab.out
  refine (DA1h.out _).mono ?_
  rintro e w4_ ⟨rfl, hb⟩
  have Ka := Lib.hid (Ga.out.below hb)
  have Kb := Lib.hid (Gb.out.below hb)
  have KBel := Lib.hid (bel_trans GBel.out hb)
  have KTab := Lib.hid (GTab.out.below hb)
  clear hb Ha Hb HBel HTab Ga Gb GBel GTab
  try clear fa0 fa1 fa2 fa3 fa4 fb0 fb1 fb2 fb3 fb4
  have Ha := Ka
  have Hb := Kb
  have HBel := KBel
  have HTab := KTab
  clear KBel KTab Ka Kb
  have fa0 := Ha.out.c0
  have fa1 := Ha.out.c1
  have fa2 := Ha.out.c2
  have fa3 := Ha.out.c3
  have fa4 := Ha.out.lt
  have fb0 := Hb.out.c0
  have fb1 := Hb.out.c1
  have fb2 := Hb.out.c2
  have fb3 := Hb.out.c3
  have fb4 := Hb.out.lt
  go_wp2_with fail
  have Ga : Hid (Box (w4_.alloc (.cells #[.int .u8 ka, .int .i64 0, .string ⟨#[]⟩, .bool ba] 24)) (w.heap.size) k1 i1 s1 b1) := Lib.hid (box_up Ha.out _)
  have Gb : Hid (Box (w4_.alloc (.cells #[.int .u8 ka, .int .i64 0, .string ⟨#[]⟩, .bool ba] 24)) (w.heap.size + 1) k2 i2 s2 b2) := Lib.hid (box_up Hb.out _)
  have Gp : Hid (Box (w4_.alloc (.cells #[.int .u8 ka, .int .i64 0, .string ⟨#[]⟩, .bool ba] 24)) (w4_.heap.size) ka 0 ⟨#[]⟩ ba) := Lib.hid (box_new w4_ ka 0 ⟨#[]⟩ ba)
  have GBel : Hid (Below w.heap.size w (w4_.alloc (.cells #[.int .u8 ka, .int .i64 0, .string ⟨#[]⟩, .bool ba] 24))) := Lib.hid (bel_alloc2 HBel.out _)
  have GTab : Hid (Tabs (w4_.alloc (.cells #[.int .u8 ka, .int .i64 0, .string ⟨#[]⟩, .bool ba] 24))) := Lib.hid (HTab.out.below (bel_alloc _ _))
  refine (DA2h.out _).mono ?_
  rintro e w5_ ⟨rfl, hb⟩
  have Ka := Lib.hid (Ga.out.below hb)
  have Kb := Lib.hid (Gb.out.below hb)
  have Kp := Lib.hid (Gp.out.below hb)
  have KBel := Lib.hid (bel_trans GBel.out hb)
  have KTab := Lib.hid (GTab.out.below hb)
  clear hb Ha Hb HBel HTab Ga Gb Gp GBel GTab
  try clear fa0 fa1 fa2 fa3 fa4 fb0 fb1 fb2 fb3 fb4
  have Ha := Ka
  have Hb := Kb
  have Hp := Kp
  have HBel := KBel
  have HTab := KTab
  clear KBel KTab Ka Kb Kp
  have fa0 := Ha.out.c0
  have fa1 := Ha.out.c1
  have fa2 := Ha.out.c2
  have fa3 := Ha.out.c3
  have fa4 := Ha.out.lt
  have fb0 := Hb.out.c0
  have fb1 := Hb.out.c1
  have fb2 := Hb.out.c2
  have fb3 := Hb.out.c3
  have fb4 := Hb.out.lt
  have fp0 := Hp.out.c0
  have fp1 := Hp.out.c1
  have fp2 := Hp.out.c2
  have fp3 := Hp.out.c3
  have fp4 := Hp.out.lt
  go_wp2_with fail
  have Ga : Hid (Box (w5_.alloc (.cells #[.int .u8 ka, .int .i64 0, .string ⟨#[]⟩, .bool ba] 24)) (w.heap.size) k1 i1 s1 b1) := Lib.hid (box_up Ha.out _)
  have Gb : Hid (Box (w5_.alloc (.cells #[.int .u8 ka, .int .i64 0, .string ⟨#[]⟩, .bool ba] 24)) (w.heap.size + 1) k2 i2 s2 b2) := Lib.hid (box_up Hb.out _)
  have Gp : Hid (Box (w5_.alloc (.cells #[.int .u8 ka, .int .i64 0, .string ⟨#[]⟩, .bool ba] 24)) (w4_.heap.size) ka 0 ⟨#[]⟩ ba) := Lib.hid (box_up Hp.out _)
  have Gq : Hid (Box (w5_.alloc (.cells #[.int .u8 ka, .int .i64 0, .string ⟨#[]⟩, .bool ba] 24)) (w5_.heap.size) ka 0 ⟨#[]⟩ ba) := Lib.hid (box_new w5_ ka 0 ⟨#[]⟩ ba)
  have GBel : Hid (Below w.heap.size w (w5_.alloc (.cells #[.int .u8 ka, .int .i64 0, .string ⟨#[]⟩, .bool ba] 24))) := Lib.hid (bel_alloc2 HBel.out _)
  have GTab : Hid (Tabs (w5_.alloc (.cells #[.int .u8 ka, .int .i64 0, .string ⟨#[]⟩, .bool ba] 24))) := Lib.hid (HTab.out.below (bel_alloc _ _))
  refine (DO1h.out _).mono ?_
  rintro e w6_ ⟨rfl, hb⟩
  have Ka := Lib.hid (Ga.out.below hb)
  have Kb := Lib.hid (Gb.out.below hb)
  have Kp := Lib.hid (Gp.out.below hb)
  have Kq := Lib.hid (Gq.out.below hb)
  have KBel := Lib.hid (bel_trans GBel.out hb)
  have KTab := Lib.hid (GTab.out.below hb)
  clear hb Ha Hb Hp HBel HTab Ga Gb Gp Gq GBel GTab
  try clear fa0 fa1 fa2 fa3 fa4 fb0 fb1 fb2 fb3 fb4 fp0 fp1 fp2 fp3 fp4
  have Ha := Ka
  have Hb := Kb
  have Hp := Kp
  have Hq := Kq
  have HBel := KBel
  have HTab := KTab
  clear KBel KTab Ka Kb Kp Kq
  have fa0 := Ha.out.c0
  have fa1 := Ha.out.c1
  have fa2 := Ha.out.c2
  have fa3 := Ha.out.c3
  have fa4 := Ha.out.lt
  have fb0 := Hb.out.c0
  have fb1 := Hb.out.c1
  have fb2 := Hb.out.c2
  have fb3 := Hb.out.c3
  have fb4 := Hb.out.lt
  have fp0 := Hp.out.c0
  have fp1 := Hp.out.c1
  have fp2 := Hp.out.c2
  have fp3 := Hp.out.c3
  have fp4 := Hp.out.lt
  have fq0 := Hq.out.c0
  have fq1 := Hq.out.c1
  have fq2 := Hq.out.c2
  have fq3 := Hq.out.c3
  have fq4 := Hq.out.lt
  go_wp2_with fail
  have Ga : Hid (Box (w6_.alloc (.cells #[.int .u8 ko, .int .i64 0, .string ⟨#[]⟩, .bool bo] 24)) (w.heap.size) k1 i1 s1 b1) := Lib.hid (box_up Ha.out _)
  have Gb : Hid (Box (w6_.alloc (.cells #[.int .u8 ko, .int .i64 0, .string ⟨#[]⟩, .bool bo] 24)) (w.heap.size + 1) k2 i2 s2 b2) := Lib.hid (box_up Hb.out _)
  have Gp : Hid (Box (w6_.alloc (.cells #[.int .u8 ko, .int .i64 0, .string ⟨#[]⟩, .bool bo] 24)) (w4_.heap.size) ka 0 ⟨#[]⟩ ba) := Lib.hid (box_up Hp.out _)
  have Gq : Hid (Box (w6_.alloc (.cells #[.int .u8 ko, .int .i64 0, .string ⟨#[]⟩, .bool bo] 24)) (w5_.heap.size) ka 0 ⟨#[]⟩ ba) := Lib.hid (box_up Hq.out _)
  have Gx : Hid (Box (w6_.alloc (.cells #[.int .u8 ko, .int .i64 0, .string ⟨#[]⟩, .bool bo] 24)) (w6_.heap.size) ko 0 ⟨#[]⟩ bo) := Lib.hid (box_new w6_ ko 0 ⟨#[]⟩ bo)
  have GBel : Hid (Below w.heap.size w (w6_.alloc (.cells #[.int .u8 ko, .int .i64 0, .string ⟨#[]⟩, .bool bo] 24))) := Lib.hid (bel_alloc2 HBel.out _)
  have GTab : Hid (Tabs (w6_.alloc (.cells #[.int .u8 ko, .int .i64 0, .string ⟨#[]⟩, .bool bo] 24))) := Lib.hid (HTab.out.below (bel_alloc _ _))
  refine (DO2h.out _).mono ?_
  rintro e w7_ ⟨rfl, hb⟩
  have Ka := Lib.hid (Ga.out.below hb)
  have Kb := Lib.hid (Gb.out.below hb)
  have Kp := Lib.hid (Gp.out.below hb)
  have Kq := Lib.hid (Gq.out.below hb)
  have Kx := Lib.hid (Gx.out.below hb)
  have KBel := Lib.hid (bel_trans GBel.out hb)
  have KTab := Lib.hid (GTab.out.below hb)
  clear hb Ha Hb Hp Hq HBel HTab Ga Gb Gp Gq Gx GBel GTab
  try clear fa0 fa1 fa2 fa3 fa4 fb0 fb1 fb2 fb3 fb4 fp0 fp1 fp2 fp3 fp4 fq0 fq1 fq2 fq3 fq4
  have Ha := Ka
  have Hb := Kb
  have Hp := Kp
  have Hq := Kq
  have Hx := Kx
  have HBel := KBel
  have HTab := KTab
  clear KBel KTab Ka Kb Kp Kq Kx
  have fa0 := Ha.out.c0
  have fa1 := Ha.out.c1
  have fa2 := Ha.out.c2
  have fa3 := Ha.out.c3
  have fa4 := Ha.out.lt
  have fb0 := Hb.out.c0
  have fb1 := Hb.out.c1
  have fb2 := Hb.out.c2
  have fb3 := Hb.out.c3
  have fb4 := Hb.out.lt
  have fp0 := Hp.out.c0
  have fp1 := Hp.out.c1
  have fp2 := Hp.out.c2
  have fp3 := Hp.out.c3
  have fp4 := Hp.out.lt
  have fq0 := Hq.out.c0
  have fq1 := Hq.out.c1
  have fq2 := Hq.out.c2
  have fq3 := Hq.out.c3
  have fq4 := Hq.out.lt
  have fx0 := Hx.out.c0
  have fx1 := Hx.out.c1
  have fx2 := Hx.out.c2
  have fx3 := Hx.out.c3
  have fx4 := Hx.out.lt
  go_wp2_with fail
  have Ga : Hid (Box (w7_.alloc (.cells #[.int .u8 ko, .int .i64 0, .string ⟨#[]⟩, .bool bo] 24)) (w.heap.size) k1 i1 s1 b1) := Lib.hid (box_up Ha.out _)
  have Gb : Hid (Box (w7_.alloc (.cells #[.int .u8 ko, .int .i64 0, .string ⟨#[]⟩, .bool bo] 24)) (w.heap.size + 1) k2 i2 s2 b2) := Lib.hid (box_up Hb.out _)
  have Gp : Hid (Box (w7_.alloc (.cells #[.int .u8 ko, .int .i64 0, .string ⟨#[]⟩, .bool bo] 24)) (w4_.heap.size) ka 0 ⟨#[]⟩ ba) := Lib.hid (box_up Hp.out _)
  have Gq : Hid (Box (w7_.alloc (.cells #[.int .u8 ko, .int .i64 0, .string ⟨#[]⟩, .bool bo] 24)) (w5_.heap.size) ka 0 ⟨#[]⟩ ba) := Lib.hid (box_up Hq.out _)
  have Gx : Hid (Box (w7_.alloc (.cells #[.int .u8 ko, .int .i64 0, .string ⟨#[]⟩, .bool bo] 24)) (w6_.heap.size) ko 0 ⟨#[]⟩ bo) := Lib.hid (box_up Hx.out _)
  have Gy : Hid (Box (w7_.alloc (.cells #[.int .u8 ko, .int .i64 0, .string ⟨#[]⟩, .bool bo] 24)) (w7_.heap.size) ko 0 ⟨#[]⟩ bo) := Lib.hid (box_new w7_ ko 0 ⟨#[]⟩ bo)
  have GBel : Hid (Below w.heap.size w (w7_.alloc (.cells #[.int .u8 ko, .int .i64 0, .string ⟨#[]⟩, .bool bo] 24))) := Lib.hid (bel_alloc2 HBel.out _)
  have GTab : Hid (Tabs (w7_.alloc (.cells #[.int .u8 ko, .int .i64 0, .string ⟨#[]⟩, .bool bo] 24))) := Lib.hid (HTab.out.below (bel_alloc _ _))
  refine (DN1h.out _).mono ?_
  rintro e w8_ ⟨rfl, hb⟩
  have Ka := Lib.hid (Ga.out.below hb)
  have Kb := Lib.hid (Gb.out.below hb)
  have Kp := Lib.hid (Gp.out.below hb)
  have Kq := Lib.hid (Gq.out.below hb)
  have Kx := Lib.hid (Gx.out.below hb)
  have Ky := Lib.hid (Gy.out.below hb)
  have KBel := Lib.hid (bel_trans GBel.out hb)
  have KTab := Lib.hid (GTab.out.below hb)
  clear hb Ha Hb Hp Hq Hx HBel HTab Ga Gb Gp Gq Gx Gy GBel GTab
  try clear fa0 fa1 fa2 fa3 fa4 fb0 fb1 fb2 fb3 fb4 fp0 fp1 fp2 fp3 fp4 fq0 fq1 fq2 fq3 fq4 fx0 fx1 fx2 fx3 fx4
  have Ha := Ka
  have Hb := Kb
  have Hp := Kp
  have Hq := Kq
  have Hx := Kx
  have Hy := Ky
  have HBel := KBel
  have HTab := KTab
  clear KBel KTab Ka Kb Kp Kq Kx Ky
  have fa0 := Ha.out.c0
  have fa1 := Ha.out.c1
  have fa2 := Ha.out.c2
  have fa3 := Ha.out.c3
  have fa4 := Ha.out.lt
  have fb0 := Hb.out.c0
  have fb1 := Hb.out.c1
  have fb2 := Hb.out.c2
  have fb3 := Hb.out.c3
  have fb4 := Hb.out.lt
  have fp0 := Hp.out.c0
  have fp1 := Hp.out.c1
  have fp2 := Hp.out.c2
  have fp3 := Hp.out.c3
  have fp4 := Hp.out.lt
  have fq0 := Hq.out.c0
  have fq1 := Hq.out.c1
  have fq2 := Hq.out.c2
  have fq3 := Hq.out.c3
  have fq4 := Hq.out.lt
  have fx0 := Hx.out.c0
  have fx1 := Hx.out.c1
  have fx2 := Hx.out.c2
  have fx3 := Hx.out.c3
  have fx4 := Hx.out.lt
  have fy0 := Hy.out.c0
  have fy1 := Hy.out.c1
  have fy2 := Hy.out.c2
  have fy3 := Hy.out.c3
  have fy4 := Hy.out.lt
  go_wp2_with fail
  have Ga : Hid (Box (w8_.alloc (.cells #[.int .u8 kn, .int .i64 0, .string ⟨#[]⟩, .bool bn] 24)) (w.heap.size) k1 i1 s1 b1) := Lib.hid (box_up Ha.out _)
  have Gb : Hid (Box (w8_.alloc (.cells #[.int .u8 kn, .int .i64 0, .string ⟨#[]⟩, .bool bn] 24)) (w.heap.size + 1) k2 i2 s2 b2) := Lib.hid (box_up Hb.out _)
  have Gp : Hid (Box (w8_.alloc (.cells #[.int .u8 kn, .int .i64 0, .string ⟨#[]⟩, .bool bn] 24)) (w4_.heap.size) ka 0 ⟨#[]⟩ ba) := Lib.hid (box_up Hp.out _)
  have Gq : Hid (Box (w8_.alloc (.cells #[.int .u8 kn, .int .i64 0, .string ⟨#[]⟩, .bool bn] 24)) (w5_.heap.size) ka 0 ⟨#[]⟩ ba) := Lib.hid (box_up Hq.out _)
  have Gx : Hid (Box (w8_.alloc (.cells #[.int .u8 kn, .int .i64 0, .string ⟨#[]⟩, .bool bn] 24)) (w6_.heap.size) ko 0 ⟨#[]⟩ bo) := Lib.hid (box_up Hx.out _)
  have Gy : Hid (Box (w8_.alloc (.cells #[.int .u8 kn, .int .i64 0, .string ⟨#[]⟩, .bool bn] 24)) (w7_.heap.size) ko 0 ⟨#[]⟩ bo) := Lib.hid (box_up Hy.out _)
  have Gu : Hid (Box (w8_.alloc (.cells #[.int .u8 kn, .int .i64 0, .string ⟨#[]⟩, .bool bn] 24)) (w8_.heap.size) kn 0 ⟨#[]⟩ bn) := Lib.hid (box_new w8_ kn 0 ⟨#[]⟩ bn)
  have GBel : Hid (Below w.heap.size w (w8_.alloc (.cells #[.int .u8 kn, .int .i64 0, .string ⟨#[]⟩, .bool bn] 24))) := Lib.hid (bel_alloc2 HBel.out _)
  have GTab : Hid (Tabs (w8_.alloc (.cells #[.int .u8 kn, .int .i64 0, .string ⟨#[]⟩, .bool bn] 24))) := Lib.hid (HTab.out.below (bel_alloc _ _))
  refine (DN2h.out _).mono ?_
  rintro e w9_ ⟨rfl, hb⟩
  have Ka := Lib.hid (Ga.out.below hb)
  have Kb := Lib.hid (Gb.out.below hb)
  have Kp := Lib.hid (Gp.out.below hb)
  have Kq := Lib.hid (Gq.out.below hb)
  have Kx := Lib.hid (Gx.out.below hb)
  have Ky := Lib.hid (Gy.out.below hb)
  have Ku := Lib.hid (Gu.out.below hb)
  have KBel := Lib.hid (bel_trans GBel.out hb)
  have KTab := Lib.hid (GTab.out.below hb)
  clear hb Ha Hb Hp Hq Hx Hy HBel HTab Ga Gb Gp Gq Gx Gy Gu GBel GTab
  try clear fa0 fa1 fa2 fa3 fa4 fb0 fb1 fb2 fb3 fb4 fp0 fp1 fp2 fp3 fp4 fq0 fq1 fq2 fq3 fq4 fx0 fx1 fx2 fx3 fx4 fy0 fy1 fy2 fy3 fy4
  have Ha := Ka
  have Hb := Kb
  have Hp := Kp
  have Hq := Kq
  have Hx := Kx
  have Hy := Ky
  have Hu := Ku
  have HBel := KBel
  have HTab := KTab
  clear KBel KTab Ka Kb Kp Kq Kx Ky Ku
  have fa0 := Ha.out.c0
  have fa1 := Ha.out.c1
  have fa2 := Ha.out.c2
  have fa3 := Ha.out.c3
  have fa4 := Ha.out.lt
  have fb0 := Hb.out.c0
  have fb1 := Hb.out.c1
  have fb2 := Hb.out.c2
  have fb3 := Hb.out.c3
  have fb4 := Hb.out.lt
  have fp0 := Hp.out.c0
  have fp1 := Hp.out.c1
  have fp2 := Hp.out.c2
  have fp3 := Hp.out.c3
  have fp4 := Hp.out.lt
  have fq0 := Hq.out.c0
  have fq1 := Hq.out.c1
  have fq2 := Hq.out.c2
  have fq3 := Hq.out.c3
  have fq4 := Hq.out.lt
  have fx0 := Hx.out.c0
  have fx1 := Hx.out.c1
  have fx2 := Hx.out.c2
  have fx3 := Hx.out.c3
  have fx4 := Hx.out.lt
  have fy0 := Hy.out.c0
  have fy1 := Hy.out.c1
  have fy2 := Hy.out.c2
  have fy3 := Hy.out.c3
  have fy4 := Hy.out.lt
  have fu0 := Hu.out.c0
  have fu1 := Hu.out.c1
  have fu2 := Hu.out.c2
  have fu3 := Hu.out.c3
  have fu4 := Hu.out.lt
  go_wp2_with fail
  go_ret
  exact ⟨rfl, (bel_alloc2 HBel.out _)⟩
end Go.Proofs.YtdfgpaoehikdpabDoor.Cell
