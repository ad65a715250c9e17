/- The law CellNots: its walk. -/
import Derived.Test.YtdfgpaoehikdpacDoorCellX
namespace Go.Proofs.YtdfgpaoehikdpacDoor.Cell
open Go.RowKit Go.Proofs.YtdfgpaoehikdpacDoor.Nums
set_option linter.unusedVariables false
set_option maxRecDepth 100000

theorem right_truth {k i : Int} {s : ByteArray} {b : Bool} (h : RightV k i s b) (ht : isT (openV k i s b) = true) : ∃ t : Option Bool, k = tK t ∧ i = 0 ∧ s = ⟨#[]⟩ ∧ b = tB t := by
  rcases h with ⟨rfl, rfl, rfl, rfl⟩ | ⟨rfl, rfl, rfl⟩ | ⟨rfl, rfl, rfl, h⟩ | ⟨rfl, rfl, rfl⟩
  · exact ⟨none, rfl, rfl, rfl, rfl⟩
  · cases ht
  · cases ht
  · exact ⟨some b, rfl, rfl, rfl, rfl⟩
theorem CellNots_walk (k1 i1 : Int) (s1 : ByteArray) (b1 : Bool) (hs1 : s1.size ≤ maxLen) (w : World) (hT : Tabs w) :
    Calls Tryd.prog 5 #[.agg #[.int .u8 k1, .int .i64 i1, .string s1, .bool b1]] w fun e w' => e = .returned (.bool true) ∧ Below w.heap.size w w' := by
  have HBel : Hid (Below w.heap.size w w) := Lib.hid (Below.refl _ _)
  have HTab := Lib.hid hT
  clear hT
  have R1 := Lib.hid (fun w => right_any k1 i1 s1 b1 hs1 w)
  clear hs1
  go_enter Tryd.func5, Tryd.ntmps5
  go_wp2_with fail
  have Ga : Hid (Box (w.alloc (.cells #[.int .u8 k1, .int .i64 i1, .string s1, .bool b1] 24)) (w.heap.size) k1 i1 s1 b1) := Lib.hid (box_new w k1 i1 s1 b1)
  have GBel : Hid (Below w.heap.size w (w.alloc (.cells #[.int .u8 k1, .int .i64 i1, .string s1, .bool b1] 24))) := Lib.hid (bel_alloc2 HBel.out _)
  have GTab : Hid (Tabs (w.alloc (.cells #[.int .u8 k1, .int .i64 i1, .string s1, .bool b1] 24))) := Lib.hid (HTab.out.below (bel_alloc _ _))
  refine (awake_any _ GTab.out).mono ?_
  rintro e w1_ ⟨rfl, hb⟩
  have Ka := Lib.hid (Ga.out.below hb)
  have KBel := Lib.hid (bel_trans GBel.out hb)
  have KTab := Lib.hid (GTab.out.below hb)
  clear hb  HBel HTab Ga GBel GTab
  skip
  have Ha := Ka
  have HBel := KBel
  have HTab := KTab
  clear KBel KTab Ka
  have fa0 := Ha.out.c0
  have fa1 := Ha.out.c1
  have fa2 := Ha.out.c2
  have fa3 := Ha.out.c3
  have fa4 := Ha.out.lt
  go_wp2_with fail
  clear fa0 fa1 fa2 fa3 fa4
  have Ga : Hid (Box w1_ (w.heap.size) k1 i1 s1 b1) := Lib.hid Ha.out
  have GBel : Hid (Below w.heap.size w w1_) := Lib.hid HBel.out
  have GTab : Hid (Tabs w1_) := Lib.hid HTab.out
  refine (R1.out _).mono ?_
  rintro e w2_ ⟨r, rfl, hb, hv⟩
  have Ka := Lib.hid (Ga.out.below hb)
  have KBel := Lib.hid (bel_trans GBel.out hb)
  have KTab := Lib.hid (GTab.out.below hb)
  clear hb Ha HBel HTab Ga GBel GTab
  try clear fa0 fa1 fa2 fa3 fa4
  have Ha := Ka
  have HBel := KBel
  have HTab := KTab
  clear KBel KTab Ka
  have fa0 := Ha.out.c0
  have fa1 := Ha.out.c1
  have fa2 := Ha.out.c2
  have fa3 := Ha.out.c3
  have fa4 := Ha.out.lt
  have HRv1 := Lib.hid hv
  clear hv R1
  cases r
  case false =>
    go_wp2_with fail
    go_ret
    exact ⟨rfl, HBel.out⟩
  have HRw := Lib.hid (HRv1.out rfl)
  clear HRv1
  have HRv1 := HRw
  clear HRw
  go_wp2_with fail
  clear fa0 fa1 fa2 fa3 fa4
  cases ht : isT (openV k1 i1 s1 b1)
  case false =>
    have Ga : Hid (Box w2_ (w.heap.size) k1 i1 s1 b1) := Lib.hid Ha.out
    have GBel : Hid (Below w.heap.size w w2_) := Lib.hid HBel.out
    have GTab : Hid (Tabs w2_) := Lib.hid HTab.out
    refine (not_N k1 i1 s1 b1 ht _).mono ?_
    rintro e w3_ ⟨rfl, hb⟩
    have Ka := Lib.hid (Ga.out.below hb)
    have KBel := Lib.hid (bel_trans GBel.out hb)
    have KTab := Lib.hid (GTab.out.below hb)
    clear hb Ha HBel HTab Ga GBel GTab
    try clear fa0 fa1 fa2 fa3 fa4
    have Ha := Ka
    have HBel := KBel
    have HTab := KTab
    clear KBel KTab Ka
    have fa0 := Ha.out.c0
    have fa1 := Ha.out.c1
    have fa2 := Ha.out.c2
    have fa3 := Ha.out.c3
    have fa4 := Ha.out.lt
    go_wp2_with fail
    go_ret
    exact ⟨rfl, (bel_alloc2 HBel.out _)⟩
  obtain ⟨t, hk, hi, hs, hb⟩ := right_truth HRv1.out ht
  subst hk hi hs hb
  clear HRv1 ht
  rcases t with _ | ⟨_ | _⟩
  · have Ha' : Hid (Box w2_ w.heap.size 0 0 ⟨#[]⟩ false) := Ha
    clear Ha
    have Ha := Ha'
    clear Ha'
    have D1 : Hid (∀ w, Calls Tryd.prog 12 #[.agg #[.int .u8 0, .int .i64 0, .string ⟨#[]⟩, .bool false]] w fun e w' => e = .returned (.tuple #[.agg #[.int .u8 0, .int .i64 0, .string ⟨#[]⟩, .bool false], .int .i64 0]) ∧ Below w.heap.size w w') := Lib.hid (fun w => not_T 0 0 ⟨#[]⟩ false (none) rfl w)
    have D2 : Hid (∀ w, Calls Tryd.prog 12 #[.agg #[.int .u8 0, .int .i64 0, .string ⟨#[]⟩, .bool false]] w fun e w' => e = .returned (.tuple #[.agg #[.int .u8 0, .int .i64 0, .string ⟨#[]⟩, .bool false], .int .i64 0]) ∧ Below w.heap.size w w') := Lib.hid (fun w => not_T 0 0 ⟨#[]⟩ false (none) rfl w)
    have D3 : Hid (∀ w, Calls Tryd.prog 13 #[.agg #[.int .u8 0, .int .i64 0, .string ⟨#[]⟩, .bool false], .agg #[.int .u8 0, .int .i64 0, .string ⟨#[]⟩, .bool false]] w fun e w' => e = .returned (.tuple #[.agg #[.int .u8 0, .int .i64 0, .string ⟨#[]⟩, .bool false], .int .i64 0]) ∧ Below w.heap.size w w') := Lib.hid (fun w => and_T 0 0 ⟨#[]⟩ false 0 0 ⟨#[]⟩ false (none) (none) rfl rfl w)
    have D4 : Hid (∀ w, Calls Tryd.prog 14 #[.agg #[.int .u8 0, .int .i64 0, .string ⟨#[]⟩, .bool false], .agg #[.int .u8 0, .int .i64 0, .string ⟨#[]⟩, .bool false]] w fun e w' => e = .returned (.tuple #[.agg #[.int .u8 0, .int .i64 0, .string ⟨#[]⟩, .bool false], .int .i64 0]) ∧ Below w.heap.size w w') := Lib.hid (fun w => or_T 0 0 ⟨#[]⟩ false 0 0 ⟨#[]⟩ false (none) (none) rfl rfl w)
    have Ga : Hid (Box w2_ (w.heap.size) 0 0 ⟨#[]⟩ false) := Lib.hid Ha.out
    have GBel : Hid (Below w.heap.size w w2_) := Lib.hid HBel.out
    have GTab : Hid (Tabs w2_) := Lib.hid HTab.out
    refine (D1.out _).mono ?_
    rintro e w3_ ⟨rfl, hb⟩
    have Ka := Lib.hid (Ga.out.below hb)
    have KBel := Lib.hid (bel_trans GBel.out hb)
    have KTab := Lib.hid (GTab.out.below hb)
    clear hb Ha HBel HTab Ga GBel GTab
    try clear fa0 fa1 fa2 fa3 fa4
    have Ha := Ka
    have HBel := KBel
    have HTab := KTab
    clear KBel KTab Ka
    have fa0 := Ha.out.c0
    have fa1 := Ha.out.c1
    have fa2 := Ha.out.c2
    have fa3 := Ha.out.c3
    have fa4 := Ha.out.lt
    go_wp2_with fail
    have Ga : Hid (Box (w3_.alloc (.cells #[.int .u8 0, .int .i64 0, .string ⟨#[]⟩, .bool false] 24)) (w.heap.size) 0 0 ⟨#[]⟩ false) := Lib.hid (box_up Ha.out _)
    have Gn : Hid (Box (w3_.alloc (.cells #[.int .u8 0, .int .i64 0, .string ⟨#[]⟩, .bool false] 24)) (w3_.heap.size) 0 0 ⟨#[]⟩ false) := Lib.hid (box_new w3_ 0 0 ⟨#[]⟩ false)
    have GBel : Hid (Below w.heap.size w (w3_.alloc (.cells #[.int .u8 0, .int .i64 0, .string ⟨#[]⟩, .bool false] 24))) := Lib.hid (bel_alloc2 HBel.out _)
    have GTab : Hid (Tabs (w3_.alloc (.cells #[.int .u8 0, .int .i64 0, .string ⟨#[]⟩, .bool false] 24))) := Lib.hid (HTab.out.below (bel_alloc _ _))
    refine (D2.out _).mono ?_
    rintro e w4_ ⟨rfl, hb⟩
    have Ka := Lib.hid (Ga.out.below hb)
    have Kn := Lib.hid (Gn.out.below hb)
    have KBel := Lib.hid (bel_trans GBel.out hb)
    have KTab := Lib.hid (GTab.out.below hb)
    clear hb Ha HBel HTab Ga Gn GBel GTab
    try clear fa0 fa1 fa2 fa3 fa4
    have Ha := Ka
    have Hn := Kn
    have HBel := KBel
    have HTab := KTab
    clear KBel KTab Ka Kn
    have fa0 := Ha.out.c0
    have fa1 := Ha.out.c1
    have fa2 := Ha.out.c2
    have fa3 := Ha.out.c3
    have fa4 := Ha.out.lt
    have fn0 := Hn.out.c0
    have fn1 := Hn.out.c1
    have fn2 := Hn.out.c2
    have fn3 := Hn.out.c3
    have fn4 := Hn.out.lt
    go_wp2_with fail
    have Ga : Hid (Box (w4_.alloc (.cells #[.int .u8 0, .int .i64 0, .string ⟨#[]⟩, .bool false] 24)) (w.heap.size) 0 0 ⟨#[]⟩ false) := Lib.hid (box_up Ha.out _)
    have Gn : Hid (Box (w4_.alloc (.cells #[.int .u8 0, .int .i64 0, .string ⟨#[]⟩, .bool false] 24)) (w3_.heap.size) 0 0 ⟨#[]⟩ false) := Lib.hid (box_up Hn.out _)
    have Gm : Hid (Box (w4_.alloc (.cells #[.int .u8 0, .int .i64 0, .string ⟨#[]⟩, .bool false] 24)) (w4_.heap.size) 0 0 ⟨#[]⟩ false) := Lib.hid (box_new w4_ 0 0 ⟨#[]⟩ false)
    have GBel : Hid (Below w.heap.size w (w4_.alloc (.cells #[.int .u8 0, .int .i64 0, .string ⟨#[]⟩, .bool false] 24))) := Lib.hid (bel_alloc2 HBel.out _)
    have GTab : Hid (Tabs (w4_.alloc (.cells #[.int .u8 0, .int .i64 0, .string ⟨#[]⟩, .bool false] 24))) := Lib.hid (HTab.out.below (bel_alloc _ _))
    refine (D3.out _).mono ?_
    rintro e w5_ ⟨rfl, hb⟩
    have Ka := Lib.hid (Ga.out.below hb)
    have Kn := Lib.hid (Gn.out.below hb)
    have Km := Lib.hid (Gm.out.below hb)
    have KBel := Lib.hid (bel_trans GBel.out hb)
    have KTab := Lib.hid (GTab.out.below hb)
    clear hb Ha Hn HBel HTab Ga Gn Gm GBel GTab
    try clear fa0 fa1 fa2 fa3 fa4 fn0 fn1 fn2 fn3 fn4
    have Ha := Ka
    have Hn := Kn
    have Hm := Km
    have HBel := KBel
    have HTab := KTab
    clear KBel KTab Ka Kn Km
    have fa0 := Ha.out.c0
    have fa1 := Ha.out.c1
    have fa2 := Ha.out.c2
    have fa3 := Ha.out.c3
    have fa4 := Ha.out.lt
    have fn0 := Hn.out.c0
    have fn1 := Hn.out.c1
    have fn2 := Hn.out.c2
    have fn3 := Hn.out.c3
    have fn4 := Hn.out.lt
    have fm0 := Hm.out.c0
    have fm1 := Hm.out.c1
    have fm2 := Hm.out.c2
    have fm3 := Hm.out.c3
    have fm4 := Hm.out.lt
    go_wp2_with fail
    have Ga : Hid (Box (w5_.alloc (.cells #[.int .u8 0, .int .i64 0, .string ⟨#[]⟩, .bool false] 24)) (w.heap.size) 0 0 ⟨#[]⟩ false) := Lib.hid (box_up Ha.out _)
    have Gn : Hid (Box (w5_.alloc (.cells #[.int .u8 0, .int .i64 0, .string ⟨#[]⟩, .bool false] 24)) (w3_.heap.size) 0 0 ⟨#[]⟩ false) := Lib.hid (box_up Hn.out _)
    have Gm : Hid (Box (w5_.alloc (.cells #[.int .u8 0, .int .i64 0, .string ⟨#[]⟩, .bool false] 24)) (w4_.heap.size) 0 0 ⟨#[]⟩ false) := Lib.hid (box_up Hm.out _)
    have Gx : Hid (Box (w5_.alloc (.cells #[.int .u8 0, .int .i64 0, .string ⟨#[]⟩, .bool false] 24)) (w5_.heap.size) 0 0 ⟨#[]⟩ false) := Lib.hid (box_new w5_ 0 0 ⟨#[]⟩ false)
    have GBel : Hid (Below w.heap.size w (w5_.alloc (.cells #[.int .u8 0, .int .i64 0, .string ⟨#[]⟩, .bool false] 24))) := Lib.hid (bel_alloc2 HBel.out _)
    have GTab : Hid (Tabs (w5_.alloc (.cells #[.int .u8 0, .int .i64 0, .string ⟨#[]⟩, .bool false] 24))) := Lib.hid (HTab.out.below (bel_alloc _ _))
    refine (D4.out _).mono ?_
    rintro e w6_ ⟨rfl, hb⟩
    have Ka := Lib.hid (Ga.out.below hb)
    have Kn := Lib.hid (Gn.out.below hb)
    have Km := Lib.hid (Gm.out.below hb)
    have Kx := Lib.hid (Gx.out.below hb)
    have KBel := Lib.hid (bel_trans GBel.out hb)
    have KTab := Lib.hid (GTab.out.below hb)
    clear hb Ha Hn Hm HBel HTab Ga Gn Gm Gx GBel GTab
    try clear fa0 fa1 fa2 fa3 fa4 fn0 fn1 fn2 fn3 fn4 fm0 fm1 fm2 fm3 fm4
    have Ha := Ka
    have Hn := Kn
    have Hm := Km
    have Hx := Kx
    have HBel := KBel
    have HTab := KTab
    clear KBel KTab Ka Kn Km Kx
    have fa0 := Ha.out.c0
    have fa1 := Ha.out.c1
    have fa2 := Ha.out.c2
    have fa3 := Ha.out.c3
    have fa4 := Ha.out.lt
    have fn0 := Hn.out.c0
    have fn1 := Hn.out.c1
    have fn2 := Hn.out.c2
    have fn3 := Hn.out.c3
    have fn4 := Hn.out.lt
    have fm0 := Hm.out.c0
    have fm1 := Hm.out.c1
    have fm2 := Hm.out.c2
    have fm3 := Hm.out.c3
    have fm4 := Hm.out.lt
    have fx0 := Hx.out.c0
    have fx1 := Hx.out.c1
    have fx2 := Hx.out.c2
    have fx3 := Hx.out.c3
    have fx4 := Hx.out.lt
    go_wp2_with fail
    go_ret
    exact ⟨rfl, (bel_alloc2 HBel.out _)⟩
  · have Ha' : Hid (Box w2_ w.heap.size 3 0 ⟨#[]⟩ false) := Ha
    clear Ha
    have Ha := Ha'
    clear Ha'
    have D1 : Hid (∀ w, Calls Tryd.prog 12 #[.agg #[.int .u8 3, .int .i64 0, .string ⟨#[]⟩, .bool false]] w fun e w' => e = .returned (.tuple #[.agg #[.int .u8 3, .int .i64 0, .string ⟨#[]⟩, .bool true], .int .i64 0]) ∧ Below w.heap.size w w') := Lib.hid (fun w => not_T 3 0 ⟨#[]⟩ false (some false) rfl w)
    have D2 : Hid (∀ w, Calls Tryd.prog 12 #[.agg #[.int .u8 3, .int .i64 0, .string ⟨#[]⟩, .bool true]] w fun e w' => e = .returned (.tuple #[.agg #[.int .u8 3, .int .i64 0, .string ⟨#[]⟩, .bool false], .int .i64 0]) ∧ Below w.heap.size w w') := Lib.hid (fun w => not_T 3 0 ⟨#[]⟩ true (some true) rfl w)
    have D3 : Hid (∀ w, Calls Tryd.prog 13 #[.agg #[.int .u8 3, .int .i64 0, .string ⟨#[]⟩, .bool false], .agg #[.int .u8 3, .int .i64 0, .string ⟨#[]⟩, .bool true]] w fun e w' => e = .returned (.tuple #[.agg #[.int .u8 3, .int .i64 0, .string ⟨#[]⟩, .bool false], .int .i64 0]) ∧ Below w.heap.size w w') := Lib.hid (fun w => and_T 3 0 ⟨#[]⟩ false 3 0 ⟨#[]⟩ true (some false) (some true) rfl rfl w)
    have D4 : Hid (∀ w, Calls Tryd.prog 14 #[.agg #[.int .u8 3, .int .i64 0, .string ⟨#[]⟩, .bool false], .agg #[.int .u8 3, .int .i64 0, .string ⟨#[]⟩, .bool true]] w fun e w' => e = .returned (.tuple #[.agg #[.int .u8 3, .int .i64 0, .string ⟨#[]⟩, .bool true], .int .i64 0]) ∧ Below w.heap.size w w') := Lib.hid (fun w => or_T 3 0 ⟨#[]⟩ false 3 0 ⟨#[]⟩ true (some false) (some true) rfl rfl w)
    have Ga : Hid (Box w2_ (w.heap.size) 3 0 ⟨#[]⟩ false) := Lib.hid Ha.out
    have GBel : Hid (Below w.heap.size w w2_) := Lib.hid HBel.out
    have GTab : Hid (Tabs w2_) := Lib.hid HTab.out
    refine (D1.out _).mono ?_
    rintro e w3_ ⟨rfl, hb⟩
    have Ka := Lib.hid (Ga.out.below hb)
    have KBel := Lib.hid (bel_trans GBel.out hb)
    have KTab := Lib.hid (GTab.out.below hb)
    clear hb Ha HBel HTab Ga GBel GTab
    try clear fa0 fa1 fa2 fa3 fa4
    have Ha := Ka
    have HBel := KBel
    have HTab := KTab
    clear KBel KTab Ka
    have fa0 := Ha.out.c0
    have fa1 := Ha.out.c1
    have fa2 := Ha.out.c2
    have fa3 := Ha.out.c3
    have fa4 := Ha.out.lt
    go_wp2_with fail
    have Ga : Hid (Box (w3_.alloc (.cells #[.int .u8 3, .int .i64 0, .string ⟨#[]⟩, .bool true] 24)) (w.heap.size) 3 0 ⟨#[]⟩ false) := Lib.hid (box_up Ha.out _)
    have Gn : Hid (Box (w3_.alloc (.cells #[.int .u8 3, .int .i64 0, .string ⟨#[]⟩, .bool true] 24)) (w3_.heap.size) 3 0 ⟨#[]⟩ true) := Lib.hid (box_new w3_ 3 0 ⟨#[]⟩ true)
    have GBel : Hid (Below w.heap.size w (w3_.alloc (.cells #[.int .u8 3, .int .i64 0, .string ⟨#[]⟩, .bool true] 24))) := Lib.hid (bel_alloc2 HBel.out _)
    have GTab : Hid (Tabs (w3_.alloc (.cells #[.int .u8 3, .int .i64 0, .string ⟨#[]⟩, .bool true] 24))) := Lib.hid (HTab.out.below (bel_alloc _ _))
    refine (D2.out _).mono ?_
    rintro e w4_ ⟨rfl, hb⟩
    have Ka := Lib.hid (Ga.out.below hb)
    have Kn := Lib.hid (Gn.out.below hb)
    have KBel := Lib.hid (bel_trans GBel.out hb)
    have KTab := Lib.hid (GTab.out.below hb)
    clear hb Ha HBel HTab Ga Gn GBel GTab
    try clear fa0 fa1 fa2 fa3 fa4
    have Ha := Ka
    have Hn := Kn
    have HBel := KBel
    have HTab := KTab
    clear KBel KTab Ka Kn
    have fa0 := Ha.out.c0
    have fa1 := Ha.out.c1
    have fa2 := Ha.out.c2
    have fa3 := Ha.out.c3
    have fa4 := Ha.out.lt
    have fn0 := Hn.out.c0
    have fn1 := Hn.out.c1
    have fn2 := Hn.out.c2
    have fn3 := Hn.out.c3
    have fn4 := Hn.out.lt
    go_wp2_with fail
    have Ga : Hid (Box (w4_.alloc (.cells #[.int .u8 3, .int .i64 0, .string ⟨#[]⟩, .bool false] 24)) (w.heap.size) 3 0 ⟨#[]⟩ false) := Lib.hid (box_up Ha.out _)
    have Gn : Hid (Box (w4_.alloc (.cells #[.int .u8 3, .int .i64 0, .string ⟨#[]⟩, .bool false] 24)) (w3_.heap.size) 3 0 ⟨#[]⟩ true) := Lib.hid (box_up Hn.out _)
    have Gm : Hid (Box (w4_.alloc (.cells #[.int .u8 3, .int .i64 0, .string ⟨#[]⟩, .bool false] 24)) (w4_.heap.size) 3 0 ⟨#[]⟩ false) := Lib.hid (box_new w4_ 3 0 ⟨#[]⟩ false)
    have GBel : Hid (Below w.heap.size w (w4_.alloc (.cells #[.int .u8 3, .int .i64 0, .string ⟨#[]⟩, .bool false] 24))) := Lib.hid (bel_alloc2 HBel.out _)
    have GTab : Hid (Tabs (w4_.alloc (.cells #[.int .u8 3, .int .i64 0, .string ⟨#[]⟩, .bool false] 24))) := Lib.hid (HTab.out.below (bel_alloc _ _))
    refine (D3.out _).mono ?_
    rintro e w5_ ⟨rfl, hb⟩
    have Ka := Lib.hid (Ga.out.below hb)
    have Kn := Lib.hid (Gn.out.below hb)
    have Km := Lib.hid (Gm.out.below hb)
    have KBel := Lib.hid (bel_trans GBel.out hb)
    have KTab := Lib.hid (GTab.out.below hb)
    clear hb Ha Hn HBel HTab Ga Gn Gm GBel GTab
    try clear fa0 fa1 fa2 fa3 fa4 fn0 fn1 fn2 fn3 fn4
    have Ha := Ka
    have Hn := Kn
    have Hm := Km
    have HBel := KBel
    have HTab := KTab
    clear KBel KTab Ka Kn Km
    have fa0 := Ha.out.c0
    have fa1 := Ha.out.c1
    have fa2 := Ha.out.c2
    have fa3 := Ha.out.c3
    have fa4 := Ha.out.lt
    have fn0 := Hn.out.c0
    have fn1 := Hn.out.c1
    have fn2 := Hn.out.c2
    have fn3 := Hn.out.c3
    have fn4 := Hn.out.lt
    have fm0 := Hm.out.c0
    have fm1 := Hm.out.c1
    have fm2 := Hm.out.c2
    have fm3 := Hm.out.c3
    have fm4 := Hm.out.lt
    go_wp2_with fail
    have Ga : Hid (Box (w5_.alloc (.cells #[.int .u8 3, .int .i64 0, .string ⟨#[]⟩, .bool false] 24)) (w.heap.size) 3 0 ⟨#[]⟩ false) := Lib.hid (box_up Ha.out _)
    have Gn : Hid (Box (w5_.alloc (.cells #[.int .u8 3, .int .i64 0, .string ⟨#[]⟩, .bool false] 24)) (w3_.heap.size) 3 0 ⟨#[]⟩ true) := Lib.hid (box_up Hn.out _)
    have Gm : Hid (Box (w5_.alloc (.cells #[.int .u8 3, .int .i64 0, .string ⟨#[]⟩, .bool false] 24)) (w4_.heap.size) 3 0 ⟨#[]⟩ false) := Lib.hid (box_up Hm.out _)
    have Gx : Hid (Box (w5_.alloc (.cells #[.int .u8 3, .int .i64 0, .string ⟨#[]⟩, .bool false] 24)) (w5_.heap.size) 3 0 ⟨#[]⟩ false) := Lib.hid (box_new w5_ 3 0 ⟨#[]⟩ false)
    have GBel : Hid (Below w.heap.size w (w5_.alloc (.cells #[.int .u8 3, .int .i64 0, .string ⟨#[]⟩, .bool false] 24))) := Lib.hid (bel_alloc2 HBel.out _)
    have GTab : Hid (Tabs (w5_.alloc (.cells #[.int .u8 3, .int .i64 0, .string ⟨#[]⟩, .bool false] 24))) := Lib.hid (HTab.out.below (bel_alloc _ _))
    refine (D4.out _).mono ?_
    rintro e w6_ ⟨rfl, hb⟩
    have Ka := Lib.hid (Ga.out.below hb)
    have Kn := Lib.hid (Gn.out.below hb)
    have Km := Lib.hid (Gm.out.below hb)
    have Kx := Lib.hid (Gx.out.below hb)
    have KBel := Lib.hid (bel_trans GBel.out hb)
    have KTab := Lib.hid (GTab.out.below hb)
    clear hb Ha Hn Hm HBel HTab Ga Gn Gm Gx GBel GTab
    try clear fa0 fa1 fa2 fa3 fa4 fn0 fn1 fn2 fn3 fn4 fm0 fm1 fm2 fm3 fm4
    have Ha := Ka
    have Hn := Kn
    have Hm := Km
    have Hx := Kx
    have HBel := KBel
    have HTab := KTab
    clear KBel KTab Ka Kn Km Kx
    have fa0 := Ha.out.c0
    have fa1 := Ha.out.c1
    have fa2 := Ha.out.c2
    have fa3 := Ha.out.c3
    have fa4 := Ha.out.lt
    have fn0 := Hn.out.c0
    have fn1 := Hn.out.c1
    have fn2 := Hn.out.c2
    have fn3 := Hn.out.c3
    have fn4 := Hn.out.lt
    have fm0 := Hm.out.c0
    have fm1 := Hm.out.c1
    have fm2 := Hm.out.c2
    have fm3 := Hm.out.c3
    have fm4 := Hm.out.lt
    have fx0 := Hx.out.c0
    have fx1 := Hx.out.c1
    have fx2 := Hx.out.c2
    have fx3 := Hx.out.c3
    have fx4 := Hx.out.lt
    go_wp2_with fail
    go_ret
    exact ⟨rfl, (bel_alloc2 HBel.out _)⟩
  · have Ha' : Hid (Box w2_ w.heap.size 3 0 ⟨#[]⟩ true) := Ha
    clear Ha
    have Ha := Ha'
    clear Ha'
    have D1 : Hid (∀ w, Calls Tryd.prog 12 #[.agg #[.int .u8 3, .int .i64 0, .string ⟨#[]⟩, .bool true]] w fun e w' => e = .returned (.tuple #[.agg #[.int .u8 3, .int .i64 0, .string ⟨#[]⟩, .bool false], .int .i64 0]) ∧ Below w.heap.size w w') := Lib.hid (fun w => not_T 3 0 ⟨#[]⟩ true (some true) rfl w)
    have D2 : Hid (∀ w, Calls Tryd.prog 12 #[.agg #[.int .u8 3, .int .i64 0, .string ⟨#[]⟩, .bool false]] w fun e w' => e = .returned (.tuple #[.agg #[.int .u8 3, .int .i64 0, .string ⟨#[]⟩, .bool true], .int .i64 0]) ∧ Below w.heap.size w w') := Lib.hid (fun w => not_T 3 0 ⟨#[]⟩ false (some false) rfl w)
    have D3 : Hid (∀ w, Calls Tryd.prog 13 #[.agg #[.int .u8 3, .int .i64 0, .string ⟨#[]⟩, .bool true], .agg #[.int .u8 3, .int .i64 0, .string ⟨#[]⟩, .bool false]] w fun e w' => e = .returned (.tuple #[.agg #[.int .u8 3, .int .i64 0, .string ⟨#[]⟩, .bool false], .int .i64 0]) ∧ Below w.heap.size w w') := Lib.hid (fun w => and_T 3 0 ⟨#[]⟩ true 3 0 ⟨#[]⟩ false (some true) (some false) rfl rfl w)
    have D4 : Hid (∀ w, Calls Tryd.prog 14 #[.agg #[.int .u8 3, .int .i64 0, .string ⟨#[]⟩, .bool true], .agg #[.int .u8 3, .int .i64 0, .string ⟨#[]⟩, .bool false]] w fun e w' => e = .returned (.tuple #[.agg #[.int .u8 3, .int .i64 0, .string ⟨#[]⟩, .bool true], .int .i64 0]) ∧ Below w.heap.size w w') := Lib.hid (fun w => or_T 3 0 ⟨#[]⟩ true 3 0 ⟨#[]⟩ false (some true) (some false) rfl rfl w)
    have Ga : Hid (Box w2_ (w.heap.size) 3 0 ⟨#[]⟩ true) := Lib.hid Ha.out
    have GBel : Hid (Below w.heap.size w w2_) := Lib.hid HBel.out
    have GTab : Hid (Tabs w2_) := Lib.hid HTab.out
    refine (D1.out _).mono ?_
    rintro e w3_ ⟨rfl, hb⟩
    have Ka := Lib.hid (Ga.out.below hb)
    have KBel := Lib.hid (bel_trans GBel.out hb)
    have KTab := Lib.hid (GTab.out.below hb)
    clear hb Ha HBel HTab Ga GBel GTab
    try clear fa0 fa1 fa2 fa3 fa4
    have Ha := Ka
    have HBel := KBel
    have HTab := KTab
    clear KBel KTab Ka
    have fa0 := Ha.out.c0
    have fa1 := Ha.out.c1
    have fa2 := Ha.out.c2
    have fa3 := Ha.out.c3
    have fa4 := Ha.out.lt
    go_wp2_with fail
    have Ga : Hid (Box (w3_.alloc (.cells #[.int .u8 3, .int .i64 0, .string ⟨#[]⟩, .bool false] 24)) (w.heap.size) 3 0 ⟨#[]⟩ true) := Lib.hid (box_up Ha.out _)
    have Gn : Hid (Box (w3_.alloc (.cells #[.int .u8 3, .int .i64 0, .string ⟨#[]⟩, .bool false] 24)) (w3_.heap.size) 3 0 ⟨#[]⟩ false) := Lib.hid (box_new w3_ 3 0 ⟨#[]⟩ false)
    have GBel : Hid (Below w.heap.size w (w3_.alloc (.cells #[.int .u8 3, .int .i64 0, .string ⟨#[]⟩, .bool false] 24))) := Lib.hid (bel_alloc2 HBel.out _)
    have GTab : Hid (Tabs (w3_.alloc (.cells #[.int .u8 3, .int .i64 0, .string ⟨#[]⟩, .bool false] 24))) := Lib.hid (HTab.out.below (bel_alloc _ _))
    refine (D2.out _).mono ?_
    rintro e w4_ ⟨rfl, hb⟩
    have Ka := Lib.hid (Ga.out.below hb)
    have Kn := Lib.hid (Gn.out.below hb)
    have KBel := Lib.hid (bel_trans GBel.out hb)
    have KTab := Lib.hid (GTab.out.below hb)
    clear hb Ha HBel HTab Ga Gn GBel GTab
    try clear fa0 fa1 fa2 fa3 fa4
    have Ha := Ka
    have Hn := Kn
    have HBel := KBel
    have HTab := KTab
    clear KBel KTab Ka Kn
    have fa0 := Ha.out.c0
    have fa1 := Ha.out.c1
    have fa2 := Ha.out.c2
    have fa3 := Ha.out.c3
    have fa4 := Ha.out.lt
    have fn0 := Hn.out.c0
    have fn1 := Hn.out.c1
    have fn2 := Hn.out.c2
    have fn3 := Hn.out.c3
    have fn4 := Hn.out.lt
    go_wp2_with fail
    have Ga : Hid (Box (w4_.alloc (.cells #[.int .u8 3, .int .i64 0, .string ⟨#[]⟩, .bool true] 24)) (w.heap.size) 3 0 ⟨#[]⟩ true) := Lib.hid (box_up Ha.out _)
    have Gn : Hid (Box (w4_.alloc (.cells #[.int .u8 3, .int .i64 0, .string ⟨#[]⟩, .bool true] 24)) (w3_.heap.size) 3 0 ⟨#[]⟩ false) := Lib.hid (box_up Hn.out _)
    have Gm : Hid (Box (w4_.alloc (.cells #[.int .u8 3, .int .i64 0, .string ⟨#[]⟩, .bool true] 24)) (w4_.heap.size) 3 0 ⟨#[]⟩ true) := Lib.hid (box_new w4_ 3 0 ⟨#[]⟩ true)
    have GBel : Hid (Below w.heap.size w (w4_.alloc (.cells #[.int .u8 3, .int .i64 0, .string ⟨#[]⟩, .bool true] 24))) := Lib.hid (bel_alloc2 HBel.out _)
    have GTab : Hid (Tabs (w4_.alloc (.cells #[.int .u8 3, .int .i64 0, .string ⟨#[]⟩, .bool true] 24))) := Lib.hid (HTab.out.below (bel_alloc _ _))
    refine (D3.out _).mono ?_
    rintro e w5_ ⟨rfl, hb⟩
    have Ka := Lib.hid (Ga.out.below hb)
    have Kn := Lib.hid (Gn.out.below hb)
    have Km := Lib.hid (Gm.out.below hb)
    have KBel := Lib.hid (bel_trans GBel.out hb)
    have KTab := Lib.hid (GTab.out.below hb)
    clear hb Ha Hn HBel HTab Ga Gn Gm GBel GTab
    try clear fa0 fa1 fa2 fa3 fa4 fn0 fn1 fn2 fn3 fn4
    have Ha := Ka
    have Hn := Kn
    have Hm := Km
    have HBel := KBel
    have HTab := KTab
    clear KBel KTab Ka Kn Km
    have fa0 := Ha.out.c0
    have fa1 := Ha.out.c1
    have fa2 := Ha.out.c2
    have fa3 := Ha.out.c3
    have fa4 := Ha.out.lt
    have fn0 := Hn.out.c0
    have fn1 := Hn.out.c1
    have fn2 := Hn.out.c2
    have fn3 := Hn.out.c3
    have fn4 := Hn.out.lt
    have fm0 := Hm.out.c0
    have fm1 := Hm.out.c1
    have fm2 := Hm.out.c2
    have fm3 := Hm.out.c3
    have fm4 := Hm.out.lt
    go_wp2_with fail
    have Ga : Hid (Box (w5_.alloc (.cells #[.int .u8 3, .int .i64 0, .string ⟨#[]⟩, .bool false] 24)) (w.heap.size) 3 0 ⟨#[]⟩ true) := Lib.hid (box_up Ha.out _)
    have Gn : Hid (Box (w5_.alloc (.cells #[.int .u8 3, .int .i64 0, .string ⟨#[]⟩, .bool false] 24)) (w3_.heap.size) 3 0 ⟨#[]⟩ false) := Lib.hid (box_up Hn.out _)
    have Gm : Hid (Box (w5_.alloc (.cells #[.int .u8 3, .int .i64 0, .string ⟨#[]⟩, .bool false] 24)) (w4_.heap.size) 3 0 ⟨#[]⟩ true) := Lib.hid (box_up Hm.out _)
    have Gx : Hid (Box (w5_.alloc (.cells #[.int .u8 3, .int .i64 0, .string ⟨#[]⟩, .bool false] 24)) (w5_.heap.size) 3 0 ⟨#[]⟩ false) := Lib.hid (box_new w5_ 3 0 ⟨#[]⟩ false)
    have GBel : Hid (Below w.heap.size w (w5_.alloc (.cells #[.int .u8 3, .int .i64 0, .string ⟨#[]⟩, .bool false] 24))) := Lib.hid (bel_alloc2 HBel.out _)
    have GTab : Hid (Tabs (w5_.alloc (.cells #[.int .u8 3, .int .i64 0, .string ⟨#[]⟩, .bool false] 24))) := Lib.hid (HTab.out.below (bel_alloc _ _))
    refine (D4.out _).mono ?_
    rintro e w6_ ⟨rfl, hb⟩
    have Ka := Lib.hid (Ga.out.below hb)
    have Kn := Lib.hid (Gn.out.below hb)
    have Km := Lib.hid (Gm.out.below hb)
    have Kx := Lib.hid (Gx.out.below hb)
    have KBel := Lib.hid (bel_trans GBel.out hb)
    have KTab := Lib.hid (GTab.out.below hb)
    clear hb Ha Hn Hm HBel HTab Ga Gn Gm Gx GBel GTab
    try clear fa0 fa1 fa2 fa3 fa4 fn0 fn1 fn2 fn3 fn4 fm0 fm1 fm2 fm3 fm4
    have Ha := Ka
    have Hn := Kn
    have Hm := Km
    have Hx := Kx
    have HBel := KBel
    have HTab := KTab
    clear KBel KTab Ka Kn Km Kx
    have fa0 := Ha.out.c0
    have fa1 := Ha.out.c1
    have fa2 := Ha.out.c2
    have fa3 := Ha.out.c3
    have fa4 := Ha.out.lt
    have fn0 := Hn.out.c0
    have fn1 := Hn.out.c1
    have fn2 := Hn.out.c2
    have fn3 := Hn.out.c3
    have fn4 := Hn.out.lt
    have fm0 := Hm.out.c0
    have fm1 := Hm.out.c1
    have fm2 := Hm.out.c2
    have fm3 := Hm.out.c3
    have fm4 := Hm.out.lt
    have fx0 := Hx.out.c0
    have fx1 := Hx.out.c1
    have fx2 := Hx.out.c2
    have fx3 := Hx.out.c3
    have fx4 := Hx.out.lt
    go_wp2_with fail
    go_ret
    exact ⟨rfl, (bel_alloc2 HBel.out _)⟩
end Go.Proofs.YtdfgpaoehikdpacDoor.Cell
