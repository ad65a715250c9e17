/- The law CellTotals: its walk. -/
import Derived.Test.YtdfgpaoehikdpacDoorCellP
import Derived.Deep.RegionHeld
namespace Go.Proofs.YtdfgpaoehikdpacDoor.Cell
open Go.RowKit Go.Proofs.YtdfgpaoehikdpacDoor.Nums
set_option linter.unusedVariables false
set_option maxRecDepth 100000

attribute [local irreducible] wpQuiet
theorem keepS {v w w' : World} {x y : Nat} {a0 a1 a2 a3 c0 c1 c2 c3 : Value} (hb : Below w.heap.size w w')
    (h : Below v.heap.size v w ∧ w.cell? ⟨x, 0, none⟩ = some a0 ∧ w.cell? ⟨x, 1, none⟩ = some a1 ∧ w.cell? ⟨x, 2, none⟩ = some a2 ∧ w.cell? ⟨x, 3, none⟩ = some a3 ∧ w.cell? ⟨y, 0, none⟩ = some c0 ∧ w.cell? ⟨y, 1, none⟩ = some c1 ∧ w.cell? ⟨y, 2, none⟩ = some c2 ∧ w.cell? ⟨y, 3, none⟩ = some c3) :
    Below v.heap.size v w' ∧ w'.cell? ⟨x, 0, none⟩ = some a0 ∧ w'.cell? ⟨x, 1, none⟩ = some a1 ∧ w'.cell? ⟨x, 2, none⟩ = some a2 ∧ w'.cell? ⟨x, 3, none⟩ = some a3 ∧ w'.cell? ⟨y, 0, none⟩ = some c0 ∧ w'.cell? ⟨y, 1, none⟩ = some c1 ∧ w'.cell? ⟨y, 2, none⟩ = some c2 ∧ w'.cell? ⟨y, 3, none⟩ = some c3 := by
  obtain ⟨h, h0, h1, h2, h3, g0, g1, g2, g3⟩ := h
  exact ⟨bel_trans h hb, (hb.cell (block_lt_of_cell h0)).trans h0, (hb.cell (block_lt_of_cell h1)).trans h1, (hb.cell (block_lt_of_cell h2)).trans h2, (hb.cell (block_lt_of_cell h3)).trans h3, (hb.cell (block_lt_of_cell g0)).trans g0, (hb.cell (block_lt_of_cell g1)).trans g1, (hb.cell (block_lt_of_cell g2)).trans g2, (hb.cell (block_lt_of_cell g3)).trans g3⟩
set_option maxHeartbeats 4000000 in
theorem CellTotals_walk (k1 i1 : Int) (s1 : ByteArray) (b1 : Bool) (k2 i2 : Int) (s2 : ByteArray) (b2 : Bool) (hs1 : s1.size ≤ maxLen) (hs2 : s2.size ≤ maxLen) (w : World) (hT : Tabs w) :
    Calls Tryd.prog 3 #[.agg #[.int .u8 k1, .int .i64 i1, .string s1, .bool b1], .agg #[.int .u8 k2, .int .i64 i2, .string s2, .bool b2]] w fun e w' => e = .returned (.bool true) ∧ Below w.heap.size w w' := by
  have HBel : Hid (Below w.heap.size w w) := Lib.hid (Below.refl _ _)
  have HTab := Lib.hid hT
  clear hT
  have R1 := Lib.hid (fun w => right_any k1 i1 s1 b1 hs1 w)
  have R2 := Lib.hid (fun w => right_any k2 i2 s2 b2 hs2 w)
  clear hs1 hs2
  go_enter Tryd.func3, Tryd.ntmps3
  go_wp2_with fail
  have Ga : Hid (Box ((w.alloc (.cells #[.int .u8 k1, .int .i64 i1, .string s1, .bool b1] 24)).alloc (.cells #[.int .u8 k2, .int .i64 i2, .string s2, .bool b2] 24)) (w.heap.size) k1 i1 s1 b1) := Lib.hid (box_up (box_new w k1 i1 s1 b1) _)
  have Gb : Hid (Box ((w.alloc (.cells #[.int .u8 k1, .int .i64 i1, .string s1, .bool b1] 24)).alloc (.cells #[.int .u8 k2, .int .i64 i2, .string s2, .bool b2] 24)) (w.heap.size + 1) k2 i2 s2 b2) := Lib.hid (by have h := box_new (w.alloc (.cells #[.int .u8 k1, .int .i64 i1, .string s1, .bool b1] 24)) k2 i2 s2 b2; rw [size_alloc] at h; exact h)
  have GBel : Hid (Below w.heap.size w ((w.alloc (.cells #[.int .u8 k1, .int .i64 i1, .string s1, .bool b1] 24)).alloc (.cells #[.int .u8 k2, .int .i64 i2, .string s2, .bool b2] 24))) := Lib.hid (bel_alloc2 (bel_alloc2 HBel.out _) _)
  have GTab : Hid (Tabs ((w.alloc (.cells #[.int .u8 k1, .int .i64 i1, .string s1, .bool b1] 24)).alloc (.cells #[.int .u8 k2, .int .i64 i2, .string s2, .bool b2] 24))) := Lib.hid ((HTab.out.below (bel_alloc _ _)).below (bel_alloc _ _))
  refine (awake_any _ GTab.out).mono ?_
  rintro e w1_ ⟨rfl, hb⟩
  have Ka := Lib.hid (Ga.out.below hb)
  have Kb := Lib.hid (Gb.out.below hb)
  have KBel := Lib.hid (bel_trans GBel.out hb)
  have KTab := Lib.hid (GTab.out.below hb)
  clear hb  HBel HTab Ga Gb GBel GTab
  skip
  have Ha := Ka
  have Hb := Kb
  have HBel := KBel
  have HTab := KTab
  clear KBel KTab Ka Kb
  have fa0 := Ha.out.c0
  have fa1 := Ha.out.c1
  have fa2 := Ha.out.c2
  have fa3 := Ha.out.c3
  have fa4 := Ha.out.lt
  have fb0 := Hb.out.c0
  have fb1 := Hb.out.c1
  have fb2 := Hb.out.c2
  have fb3 := Hb.out.c3
  have fb4 := Hb.out.lt
  go_wp2_with fail
  clear fa0 fa1 fa2 fa3 fa4 fb0 fb1 fb2 fb3 fb4
  have Ga : Hid (Box w1_ (w.heap.size) k1 i1 s1 b1) := Lib.hid Ha.out
  have Gb : Hid (Box w1_ (w.heap.size + 1) k2 i2 s2 b2) := Lib.hid Hb.out
  have GBel : Hid (Below w.heap.size w w1_) := Lib.hid HBel.out
  have GTab : Hid (Tabs w1_) := Lib.hid HTab.out
  refine (R1.out _).mono ?_
  rintro e w2_ ⟨r, rfl, hb, hv⟩
  have Ka := Lib.hid (Ga.out.below hb)
  have Kb := Lib.hid (Gb.out.below hb)
  have KBel := Lib.hid (bel_trans GBel.out hb)
  have KTab := Lib.hid (GTab.out.below hb)
  clear hb Ha Hb HBel HTab Ga Gb GBel GTab
  try clear fa0 fa1 fa2 fa3 fa4 fb0 fb1 fb2 fb3 fb4
  have Ha := Ka
  have Hb := Kb
  have HBel := KBel
  have HTab := KTab
  clear KBel KTab Ka Kb
  have fa0 := Ha.out.c0
  have fa1 := Ha.out.c1
  have fa2 := Ha.out.c2
  have fa3 := Ha.out.c3
  have fa4 := Ha.out.lt
  have fb0 := Hb.out.c0
  have fb1 := Hb.out.c1
  have fb2 := Hb.out.c2
  have fb3 := Hb.out.c3
  have fb4 := Hb.out.lt
  have HRv1 := Lib.hid hv
  clear hv R1
  cases r
  case false =>
    go_wp2_with fail
    go_ret
    exact ⟨rfl, HBel.out⟩
  have HRw := Lib.hid (HRv1.out rfl)
  clear HRv1
  have HRv1 := HRw
  clear HRw
  go_wp2_with fail
  clear fa0 fa1 fa2 fa3 fa4 fb0 fb1 fb2 fb3 fb4
  have Ga : Hid (Box w2_ (w.heap.size) k1 i1 s1 b1) := Lib.hid Ha.out
  have Gb : Hid (Box w2_ (w.heap.size + 1) k2 i2 s2 b2) := Lib.hid Hb.out
  have GBel : Hid (Below w.heap.size w w2_) := Lib.hid HBel.out
  have GTab : Hid (Tabs w2_) := Lib.hid HTab.out
  refine (R2.out _).mono ?_
  rintro e w3_ ⟨r, rfl, hb, hv⟩
  have Ka := Lib.hid (Ga.out.below hb)
  have Kb := Lib.hid (Gb.out.below hb)
  have KBel := Lib.hid (bel_trans GBel.out hb)
  have KTab := Lib.hid (GTab.out.below hb)
  clear hb Ha Hb HBel HTab Ga Gb GBel GTab
  try clear fa0 fa1 fa2 fa3 fa4 fb0 fb1 fb2 fb3 fb4
  have Ha := Ka
  have Hb := Kb
  have HBel := KBel
  have HTab := KTab
  clear KBel KTab Ka Kb
  have fa0 := Ha.out.c0
  have fa1 := Ha.out.c1
  have fa2 := Ha.out.c2
  have fa3 := Ha.out.c3
  have fa4 := Ha.out.lt
  have fb0 := Hb.out.c0
  have fb1 := Hb.out.c1
  have fb2 := Hb.out.c2
  have fb3 := Hb.out.c3
  have fb4 := Hb.out.lt
  have HRv2 := Lib.hid hv
  clear hv R2
  cases r
  case false =>
    go_wp2_with fail
    go_ret
    exact ⟨rfl, HBel.out⟩
  have HRw := Lib.hid (HRv2.out rfl)
  clear HRv2
  have HRv2 := HRw
  clear HRw
  go_wp2_with fail
  have hr := order_range (openV k1 i1 s1 b1) (openV k2 i2 s2 b2)
  have hfl := order_flip (openV k1 i1 s1 b1) (openV k2 i2 s2 b2)
  have D12 := fun w => less_any k1 i1 s1 b1 k2 i2 s2 b2 w
  have D21 := fun w => less_any k2 i2 s2 b2 k1 i1 s1 b1 w
  have E12 := fun w => same_any k1 i1 s1 b1 k2 i2 s2 b2 w
  have E11 := fun w => same_any k1 i1 s1 b1 k1 i1 s1 b1 w
  have D11 := fun w => less_any k1 i1 s1 b1 k1 i1 s1 b1 w
  rw [hfl] at D21
  rw [order_self] at E11 D11
  clear hfl HRv1 HRv2
  generalize orderO (openV k1 i1 s1 b1) (openV k2 i2 s2 b2) = o at *
  have hpq : ((decide (o < 0), decide (-o < 0), (o == 0)) : Bool × Bool × Bool) = (true, false, false) ∨ ((decide (o < 0), decide (-o < 0), (o == 0)) : Bool × Bool × Bool) = (false, false, true) ∨ ((decide (o < 0), decide (-o < 0), (o == 0)) : Bool × Bool × Bool) = (false, true, false) := (by rcases hr with rfl | rfl | rfl <;> first | exact .inl rfl | exact .inr (.inl rfl) | exact .inr (.inr rfl))
  generalize decide (o < 0) = p at *
  generalize decide (-o < 0) = q at *
  generalize (o == 0) = r at *
  clear hr
  have hD12 : Hid (∀ w, Calls Tryd.prog 8 #[.agg #[.int .u8 k1, .int .i64 i1, .string s1, .bool b1], .agg #[.int .u8 k2, .int .i64 i2, .string s2, .bool b2]] w fun e w' => e = .returned (.bool p) ∧ Below w.heap.size w w') := Lib.hid D12
  clear D12
  have hD21 : Hid (∀ w, Calls Tryd.prog 8 #[.agg #[.int .u8 k2, .int .i64 i2, .string s2, .bool b2], .agg #[.int .u8 k1, .int .i64 i1, .string s1, .bool b1]] w fun e w' => e = .returned (.bool q) ∧ Below w.heap.size w w') := Lib.hid D21
  clear D21
  have hE12 : Hid (∀ w, Calls Tryd.prog 9 #[.agg #[.int .u8 k1, .int .i64 i1, .string s1, .bool b1], .agg #[.int .u8 k2, .int .i64 i2, .string s2, .bool b2]] w fun e w' => e = .returned (.bool r) ∧ Below w.heap.size w w') := Lib.hid E12
  clear E12
  have hE11 : Hid (∀ w, Calls Tryd.prog 9 #[.agg #[.int .u8 k1, .int .i64 i1, .string s1, .bool b1], .agg #[.int .u8 k1, .int .i64 i1, .string s1, .bool b1]] w fun e w' => e = .returned (.bool true) ∧ Below w.heap.size w w') := Lib.hid E11
  clear E11
  have hD11 : Hid (∀ w, Calls Tryd.prog 8 #[.agg #[.int .u8 k1, .int .i64 i1, .string s1, .bool b1], .agg #[.int .u8 k1, .int .i64 i1, .string s1, .bool b1]] w fun e w' => e = .returned (.bool false) ∧ Below w.heap.size w w') := Lib.hid D11
  clear D11
  have Hpq := Lib.hid hpq
  clear hpq
  have hd : Below w3_.heap.size w3_ w3_.drew := ⟨rfl, rfl, rfl, Nat.le_refl _, fun _ _ => rfl⟩
  go_region_held (fun w' => Below w3_.heap.size w3_ w' ∧ w'.cell? ⟨w.heap.size, 0, none⟩ = some (.int .u8 k1) ∧ w'.cell? ⟨w.heap.size, 1, none⟩ = some (.int .i64 i1) ∧ w'.cell? ⟨w.heap.size, 2, none⟩ = some (.string s1) ∧ w'.cell? ⟨w.heap.size, 3, none⟩ = some (.bool b1) ∧ w'.cell? ⟨w.heap.size + 1, 0, none⟩ = some (.int .u8 k2) ∧ w'.cell? ⟨w.heap.size + 1, 1, none⟩ = some (.int .i64 i2) ∧ w'.cell? ⟨w.heap.size + 1, 2, none⟩ = some (.string s2) ∧ w'.cell? ⟨w.heap.size + 1, 3, none⟩ = some (.bool b2)) (first | exact ⟨hd, fa0, fa1, fa2, fa3, fb0, fb1, fb2, fb3⟩ | exact keepS (by assumption) (by assumption) | exact keepS (bel_alloc _ _) (by assumption)) (first | (refine (hD12.out _).mono ?_; rintro e w'' ⟨rfl, hb⟩) | (refine (hD21.out _).mono ?_; rintro e w'' ⟨rfl, hb⟩) | (refine (hE12.out _).mono ?_; rintro e w'' ⟨rfl, hb⟩))
  clear fa0 fa1 fa2 fa3 fa4 fb0 fb1 fb2 fb3 fb4
  rename_i hS
  obtain ⟨w4_, hW⟩ : ∃ v, w''.alloc (.cells #[.bool p, .bool q, .bool r] 4) = v := ⟨_, rfl⟩
  have g0 : w4_.cell? ⟨w''.heap.size, 0, none⟩ = some (.bool p) := by rw [← hW]; exact cell_one _ _ _ 0
  have g1 : w4_.cell? ⟨w''.heap.size, 1, none⟩ = some (.bool q) := by rw [← hW]; exact cell_one _ _ _ 1
  have g2 : w4_.cell? ⟨w''.heap.size, 2, none⟩ = some (.bool r) := by rw [← hW]; exact cell_one _ _ _ 2
  rw [hW] at hS ⊢
  have HBel4 := Lib.hid (bel_trans HBel.out hS.1)
  have HTab4 := Lib.hid (HTab.out.below hS.1)
  have Ha4 := Lib.hid (Ha.out.below hS.1)
  have Hb4 := Lib.hid (Hb.out.below hS.1)
  clear hW hS hb HBel HTab Ha Hb hd hD12 hD21 hE12
  have HBel := HBel4
  have HTab := HTab4
  have Ha := Ha4
  have Hb := Hb4
  clear HBel4 HTab4 Ha4 Hb4
  generalize w''.heap.size = sb at *
  have hpq := Hpq.out
  clear Hpq
  rcases hpq with h | h | h
  · obtain ⟨rfl, rfl, rfl⟩ : p = true ∧ q = false ∧ r = false := by simpa using h
    clear h
    go_wp2_with fail
    go_loop [5, 7, 29] (fun n _ i => (i = .int .i64 0 ∧ n = .int .i64 0) ∨ (i = .int .i64 1 ∧ n = .int .i64 1) ∨ (i = .int .i64 2 ∧ n = .int .i64 1) ∨ (i = .int .i64 3 ∧ n = .int .i64 1)) (fun _ _ i => 3 - (intOf i).toNat)
    case atStart => exact .inl ⟨rfl, rfl⟩
    case round =>
      rcases hrel with ⟨rfl, rfl⟩ | ⟨rfl, rfl⟩ | ⟨rfl, rfl⟩ | ⟨rfl, rfl⟩
      · go_wp2_with fail
        go_round
        case rel => exact .inr (.inl ⟨by go_num, by go_num⟩)
        case measure => simp [intOf]
      · go_wp2_with fail
        go_round
        case rel => exact .inr (.inr (.inl ⟨by go_num, by go_num⟩))
        case measure => simp [intOf]
      · go_wp2_with fail
        go_round
        case rel => exact .inr (.inr (.inr ⟨by go_num, by go_num⟩))
        case measure => simp [intOf]
      · have fa0 := Ha.out.c0
        have fa1 := Ha.out.c1
        have fa2 := Ha.out.c2
        have fa3 := Ha.out.c3
        have fa4 := Ha.out.lt
        have fb0 := Hb.out.c0
        have fb1 := Hb.out.c1
        have fb2 := Hb.out.c2
        have fb3 := Hb.out.c3
        have fb4 := Hb.out.lt
        go_wp2_with fail
        have Ga : Hid (Box w4_ (w.heap.size) k1 i1 s1 b1) := Lib.hid Ha.out
        have Gb : Hid (Box w4_ (w.heap.size + 1) k2 i2 s2 b2) := Lib.hid Hb.out
        have GBel : Hid (Below w.heap.size w w4_) := Lib.hid HBel.out
        have GTab : Hid (Tabs w4_) := Lib.hid HTab.out
        refine (hE11.out _).mono ?_
        rintro e w4_ ⟨rfl, hb⟩
        have Ka := Lib.hid (Ga.out.below hb)
        have Kb := Lib.hid (Gb.out.below hb)
        have KBel := Lib.hid (bel_trans GBel.out hb)
        have KTab := Lib.hid (GTab.out.below hb)
        clear hb Ha Hb HBel HTab Ga Gb GBel GTab
        try clear fa0 fa1 fa2 fa3 fa4 fb0 fb1 fb2 fb3 fb4
        have Ha := Ka
        have Hb := Kb
        have HBel := KBel
        have HTab := KTab
        clear KBel KTab Ka Kb
        have fa0 := Ha.out.c0
        have fa1 := Ha.out.c1
        have fa2 := Ha.out.c2
        have fa3 := Ha.out.c3
        have fa4 := Ha.out.lt
        have fb0 := Hb.out.c0
        have fb1 := Hb.out.c1
        have fb2 := Hb.out.c2
        have fb3 := Hb.out.c3
        have fb4 := Hb.out.lt
        go_wp2_with fail
        have Ga : Hid (Box w4_ (w.heap.size) k1 i1 s1 b1) := Lib.hid Ha.out
        have Gb : Hid (Box w4_ (w.heap.size + 1) k2 i2 s2 b2) := Lib.hid Hb.out
        have GBel : Hid (Below w.heap.size w w4_) := Lib.hid HBel.out
        have GTab : Hid (Tabs w4_) := Lib.hid HTab.out
        refine (hD11.out _).mono ?_
        rintro e w5_ ⟨rfl, hb⟩
        have Ka := Lib.hid (Ga.out.below hb)
        have Kb := Lib.hid (Gb.out.below hb)
        have KBel := Lib.hid (bel_trans GBel.out hb)
        have KTab := Lib.hid (GTab.out.below hb)
        clear hb Ha Hb HBel HTab Ga Gb GBel GTab
        try clear fa0 fa1 fa2 fa3 fa4 fb0 fb1 fb2 fb3 fb4
        have Ha := Ka
        have Hb := Kb
        have HBel := KBel
        have HTab := KTab
        clear KBel KTab Ka Kb
        have fa0 := Ha.out.c0
        have fa1 := Ha.out.c1
        have fa2 := Ha.out.c2
        have fa3 := Ha.out.c3
        have fa4 := Ha.out.lt
        have fb0 := Hb.out.c0
        have fb1 := Hb.out.c1
        have fb2 := Hb.out.c2
        have fb3 := Hb.out.c3
        have fb4 := Hb.out.lt
        go_wp2_with fail
        go_ret
        exact ⟨rfl, HBel.out⟩
  · obtain ⟨rfl, rfl, rfl⟩ : p = false ∧ q = false ∧ r = true := by simpa using h
    clear h
    go_wp2_with fail
    go_loop [5, 7, 29] (fun n _ i => (i = .int .i64 0 ∧ n = .int .i64 0) ∨ (i = .int .i64 1 ∧ n = .int .i64 0) ∨ (i = .int .i64 2 ∧ n = .int .i64 0) ∨ (i = .int .i64 3 ∧ n = .int .i64 1)) (fun _ _ i => 3 - (intOf i).toNat)
    case atStart => exact .inl ⟨rfl, rfl⟩
    case round =>
      rcases hrel with ⟨rfl, rfl⟩ | ⟨rfl, rfl⟩ | ⟨rfl, rfl⟩ | ⟨rfl, rfl⟩
      · go_wp2_with fail
        go_round
        case rel => exact .inr (.inl ⟨by go_num, by go_num⟩)
        case measure => simp [intOf]
      · go_wp2_with fail
        go_round
        case rel => exact .inr (.inr (.inl ⟨by go_num, by go_num⟩))
        case measure => simp [intOf]
      · go_wp2_with fail
        go_round
        case rel => exact .inr (.inr (.inr ⟨by go_num, by go_num⟩))
        case measure => simp [intOf]
      · have fa0 := Ha.out.c0
        have fa1 := Ha.out.c1
        have fa2 := Ha.out.c2
        have fa3 := Ha.out.c3
        have fa4 := Ha.out.lt
        have fb0 := Hb.out.c0
        have fb1 := Hb.out.c1
        have fb2 := Hb.out.c2
        have fb3 := Hb.out.c3
        have fb4 := Hb.out.lt
        go_wp2_with fail
        have Ga : Hid (Box w4_ (w.heap.size) k1 i1 s1 b1) := Lib.hid Ha.out
        have Gb : Hid (Box w4_ (w.heap.size + 1) k2 i2 s2 b2) := Lib.hid Hb.out
        have GBel : Hid (Below w.heap.size w w4_) := Lib.hid HBel.out
        have GTab : Hid (Tabs w4_) := Lib.hid HTab.out
        refine (hE11.out _).mono ?_
        rintro e w4_ ⟨rfl, hb⟩
        have Ka := Lib.hid (Ga.out.below hb)
        have Kb := Lib.hid (Gb.out.below hb)
        have KBel := Lib.hid (bel_trans GBel.out hb)
        have KTab := Lib.hid (GTab.out.below hb)
        clear hb Ha Hb HBel HTab Ga Gb GBel GTab
        try clear fa0 fa1 fa2 fa3 fa4 fb0 fb1 fb2 fb3 fb4
        have Ha := Ka
        have Hb := Kb
        have HBel := KBel
        have HTab := KTab
        clear KBel KTab Ka Kb
        have fa0 := Ha.out.c0
        have fa1 := Ha.out.c1
        have fa2 := Ha.out.c2
        have fa3 := Ha.out.c3
        have fa4 := Ha.out.lt
        have fb0 := Hb.out.c0
        have fb1 := Hb.out.c1
        have fb2 := Hb.out.c2
        have fb3 := Hb.out.c3
        have fb4 := Hb.out.lt
        go_wp2_with fail
        have Ga : Hid (Box w4_ (w.heap.size) k1 i1 s1 b1) := Lib.hid Ha.out
        have Gb : Hid (Box w4_ (w.heap.size + 1) k2 i2 s2 b2) := Lib.hid Hb.out
        have GBel : Hid (Below w.heap.size w w4_) := Lib.hid HBel.out
        have GTab : Hid (Tabs w4_) := Lib.hid HTab.out
        refine (hD11.out _).mono ?_
        rintro e w5_ ⟨rfl, hb⟩
        have Ka := Lib.hid (Ga.out.below hb)
        have Kb := Lib.hid (Gb.out.below hb)
        have KBel := Lib.hid (bel_trans GBel.out hb)
        have KTab := Lib.hid (GTab.out.below hb)
        clear hb Ha Hb HBel HTab Ga Gb GBel GTab
        try clear fa0 fa1 fa2 fa3 fa4 fb0 fb1 fb2 fb3 fb4
        have Ha := Ka
        have Hb := Kb
        have HBel := KBel
        have HTab := KTab
        clear KBel KTab Ka Kb
        have fa0 := Ha.out.c0
        have fa1 := Ha.out.c1
        have fa2 := Ha.out.c2
        have fa3 := Ha.out.c3
        have fa4 := Ha.out.lt
        have fb0 := Hb.out.c0
        have fb1 := Hb.out.c1
        have fb2 := Hb.out.c2
        have fb3 := Hb.out.c3
        have fb4 := Hb.out.lt
        go_wp2_with fail
        go_ret
        exact ⟨rfl, HBel.out⟩
  · obtain ⟨rfl, rfl, rfl⟩ : p = false ∧ q = true ∧ r = false := by simpa using h
    clear h
    go_wp2_with fail
    go_loop [5, 7, 29] (fun n _ i => (i = .int .i64 0 ∧ n = .int .i64 0) ∨ (i = .int .i64 1 ∧ n = .int .i64 0) ∨ (i = .int .i64 2 ∧ n = .int .i64 1) ∨ (i = .int .i64 3 ∧ n = .int .i64 1)) (fun _ _ i => 3 - (intOf i).toNat)
    case atStart => exact .inl ⟨rfl, rfl⟩
    case round =>
      rcases hrel with ⟨rfl, rfl⟩ | ⟨rfl, rfl⟩ | ⟨rfl, rfl⟩ | ⟨rfl, rfl⟩
      · go_wp2_with fail
        go_round
        case rel => exact .inr (.inl ⟨by go_num, by go_num⟩)
        case measure => simp [intOf]
      · go_wp2_with fail
        go_round
        case rel => exact .inr (.inr (.inl ⟨by go_num, by go_num⟩))
        case measure => simp [intOf]
      · go_wp2_with fail
        go_round
        case rel => exact .inr (.inr (.inr ⟨by go_num, by go_num⟩))
        case measure => simp [intOf]
      · have fa0 := Ha.out.c0
        have fa1 := Ha.out.c1
        have fa2 := Ha.out.c2
        have fa3 := Ha.out.c3
        have fa4 := Ha.out.lt
        have fb0 := Hb.out.c0
        have fb1 := Hb.out.c1
        have fb2 := Hb.out.c2
        have fb3 := Hb.out.c3
        have fb4 := Hb.out.lt
        go_wp2_with fail
        have Ga : Hid (Box w4_ (w.heap.size) k1 i1 s1 b1) := Lib.hid Ha.out
        have Gb : Hid (Box w4_ (w.heap.size + 1) k2 i2 s2 b2) := Lib.hid Hb.out
        have GBel : Hid (Below w.heap.size w w4_) := Lib.hid HBel.out
        have GTab : Hid (Tabs w4_) := Lib.hid HTab.out
        refine (hE11.out _).mono ?_
        rintro e w4_ ⟨rfl, hb⟩
        have Ka := Lib.hid (Ga.out.below hb)
        have Kb := Lib.hid (Gb.out.below hb)
        have KBel := Lib.hid (bel_trans GBel.out hb)
        have KTab := Lib.hid (GTab.out.below hb)
        clear hb Ha Hb HBel HTab Ga Gb GBel GTab
        try clear fa0 fa1 fa2 fa3 fa4 fb0 fb1 fb2 fb3 fb4
        have Ha := Ka
        have Hb := Kb
        have HBel := KBel
        have HTab := KTab
        clear KBel KTab Ka Kb
        have fa0 := Ha.out.c0
        have fa1 := Ha.out.c1
        have fa2 := Ha.out.c2
        have fa3 := Ha.out.c3
        have fa4 := Ha.out.lt
        have fb0 := Hb.out.c0
        have fb1 := Hb.out.c1
        have fb2 := Hb.out.c2
        have fb3 := Hb.out.c3
        have fb4 := Hb.out.lt
        go_wp2_with fail
        have Ga : Hid (Box w4_ (w.heap.size) k1 i1 s1 b1) := Lib.hid Ha.out
        have Gb : Hid (Box w4_ (w.heap.size + 1) k2 i2 s2 b2) := Lib.hid Hb.out
        have GBel : Hid (Below w.heap.size w w4_) := Lib.hid HBel.out
        have GTab : Hid (Tabs w4_) := Lib.hid HTab.out
        refine (hD11.out _).mono ?_
        rintro e w5_ ⟨rfl, hb⟩
        have Ka := Lib.hid (Ga.out.below hb)
        have Kb := Lib.hid (Gb.out.below hb)
        have KBel := Lib.hid (bel_trans GBel.out hb)
        have KTab := Lib.hid (GTab.out.below hb)
        clear hb Ha Hb HBel HTab Ga Gb GBel GTab
        try clear fa0 fa1 fa2 fa3 fa4 fb0 fb1 fb2 fb3 fb4
        have Ha := Ka
        have Hb := Kb
        have HBel := KBel
        have HTab := KTab
        clear KBel KTab Ka Kb
        have fa0 := Ha.out.c0
        have fa1 := Ha.out.c1
        have fa2 := Ha.out.c2
        have fa3 := Ha.out.c3
        have fa4 := Ha.out.lt
        have fb0 := Hb.out.c0
        have fb1 := Hb.out.c1
        have fb2 := Hb.out.c2
        have fb3 := Hb.out.c3
        have fb4 := Hb.out.lt
        go_wp2_with fail
        go_ret
        exact ⟨rfl, HBel.out⟩
end Go.Proofs.YtdfgpaoehikdpacDoor.Cell
