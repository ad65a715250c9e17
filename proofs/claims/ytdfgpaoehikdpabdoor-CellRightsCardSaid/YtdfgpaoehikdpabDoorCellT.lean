/- Truth, known or not: joined by and, by or; turned. -/
import Derived.Test.YtdfgpaoehikdpabDoorCellB
namespace Go.Proofs.YtdfgpaoehikdpabDoor.Cell
open Go.RowKit Go.Proofs.YtdfgpaoehikdpabDoor.Nums
set_option linter.unusedVariables false
set_option maxRecDepth 100000

theorem eq_nil' (o : OV) (c : Bool) (h : isNil o = c) (w : World) : (binOp .eql 20 o.val .nilIface).run Tryd.prog w = .ok (.bool c) w := by rw [eq_nil, h]
attribute [local go_sem] guard_nil ta_nb ta_bb ta_ib ta_sb ta_ob
/-- is it truth, known or not; is it known to be b -/
def isT : OV → Bool
  | .nil => true
  | .bool _ => true
  | _ => false
def saysO (o : OV) (b : Bool) : Bool := match o with
  | .bool c => c == b
  | _ => false
def joinK (x y : OV) (s : Bool) : Int := if isT x && isT y then (if saysO x s || saysO y s then 3 else if isNil x || isNil y then 0 else 3) else 0
def joinB (x y : OV) (s : Bool) : Bool := if isT x && isT y then (if saysO x s || saysO y s then s else if isNil x || isNil y then false else !s) else false
def joinE (x y : OV) : Int := if isT x && isT y then 0 else 8

theorem isTruth_any (o : OV) (w : World) :
    Calls Tryd.prog 45 #[o.val] w fun e w' => e = .returned (.bool (isT o)) ∧ w = w' := by
  cases o
  all_goals
    unfold OV.val
    go_enter Tryd.func45, Tryd.ntmps45
    go_wp2_with fail
    go_ret
    exact ⟨rfl, rfl⟩
theorem says_any (o : OV) (b : Bool) (w : World) :
    Calls Tryd.prog 46 #[o.val, .bool b] w fun e w' => e = .returned (.bool (saysO o b)) ∧ w = w' := by
  cases o
  all_goals
    unfold OV.val
    go_enter Tryd.func46, Tryd.ntmps46
    go_wp2_with fail
    go_ret
    exact ⟨rfl, rfl⟩
theorem truth_any (b : Bool) (w : World) :
    Calls Tryd.prog 27 #[.bool b] w fun e w' => e = .returned (.agg #[.int .u8 3, .int .i64 0, .string ⟨#[]⟩, .bool b]) ∧ Below w.heap.size w w' := by
  go_enter Tryd.func27, Tryd.ntmps27
  go_wp2_with fail
  exact bodyPost_ret (v := .agg #[.int .u8 3, .int .i64 0, .string ⟨#[]⟩, .bool b]) (by simp [results, Tryd.results27, go_sem]) rfl ⟨rfl, by repeat (first | exact Below.refl _ _ | exact bel_alloc _ _)⟩

structure SlotN (w : World) (b : Nat) : Prop where
  c0 : w.cell? ⟨b, 0, none⟩ = some (.int .u8 0)
  c1 : w.cell? ⟨b, 1, none⟩ = some (.int .i64 0)
  c2 : w.cell? ⟨b, 2, none⟩ = some (.string ⟨#[]⟩)
  c3 : w.cell? ⟨b, 3, none⟩ = some (.bool false)
  f0 : w.frozen? ⟨b, 0, none⟩ = false
  f1 : w.frozen? ⟨b, 1, none⟩ = false
  f2 : w.frozen? ⟨b, 2, none⟩ = false
  f3 : w.frozen? ⟨b, 3, none⟩ = false
  lt : b < w.heap.size
theorem frozen_new (w : World) (cs : Array Value) (t : TypeId) (j : Nat) : (w.alloc (.cells cs t)).frozen? ⟨w.heap.size, j, none⟩ = false := by
  rw [frozen?_alloc_cells]
  unfold World.frozen?
  rw [Array.getElem?_eq_none (Nat.le_refl _)]
theorem slot_new (w : World) : SlotN (w.alloc (.cells #[.int .u8 0, .int .i64 0, .string ⟨#[]⟩, .bool false] 24)) w.heap.size :=
  ⟨cell_one _ _ _ 0, cell_one _ _ _ 1, cell_one _ _ _ 2, cell_one _ _ _ 3, frozen_new _ _ _ _, frozen_new _ _ _ _, frozen_new _ _ _ _, frozen_new _ _ _ _, by rw [size_alloc]; omega⟩
theorem SlotN.below {w w' : World} {b : Nat} (h : SlotN w b) (hb : Below w.heap.size w w') : SlotN w' b :=
  ⟨(hb.cell h.lt).trans h.c0, (hb.cell h.lt).trans h.c1, (hb.cell h.lt).trans h.c2, (hb.cell h.lt).trans h.c3, (hb.frozen h.lt).trans h.f0, (hb.frozen h.lt).trans h.f1, (hb.frozen h.lt).trans h.f2, (hb.frozen h.lt).trans h.f3, Nat.lt_of_lt_of_le h.lt hb.size⟩
theorem SlotN.s0 {w : World} {b : Nat} (h : SlotN w b) (v : Value) : (w.setCell ⟨b, 0, none⟩ v).cell? ⟨b, 0, none⟩ = some v := World.cell?_setCell_same _ _ _ h.c0
theorem SlotN.s1 {w : World} {b : Nat} (h : SlotN w b) (v0 v : Value) : ((w.setCell ⟨b, 0, none⟩ v0).setCell ⟨b, 1, none⟩ v).cell? ⟨b, 1, none⟩ = some v :=
  World.cell?_setCell_same _ _ _ (by rw [World.cell?_setCell_other _ _ _ _ (by simp)]; exact h.c1)
theorem SlotN.s2 {w : World} {b : Nat} (h : SlotN w b) (v0 v1 v : Value) : (((w.setCell ⟨b, 0, none⟩ v0).setCell ⟨b, 1, none⟩ v1).setCell ⟨b, 2, none⟩ v).cell? ⟨b, 2, none⟩ = some v :=
  World.cell?_setCell_same _ _ _ (by rw [World.cell?_setCell_other _ _ _ _ (by simp), World.cell?_setCell_other _ _ _ _ (by simp)]; exact h.c2)
theorem SlotN.s3 {w : World} {b : Nat} (h : SlotN w b) (v0 v1 v2 v : Value) : ((((w.setCell ⟨b, 0, none⟩ v0).setCell ⟨b, 1, none⟩ v1).setCell ⟨b, 2, none⟩ v2).setCell ⟨b, 3, none⟩ v).cell? ⟨b, 3, none⟩ = some v :=
  World.cell?_setCell_same _ _ _ (by rw [World.cell?_setCell_other _ _ _ _ (by simp), World.cell?_setCell_other _ _ _ _ (by simp), World.cell?_setCell_other _ _ _ _ (by simp)]; exact h.c3)
theorem bel_set {a w : World} {b : Nat} (h : Below a.heap.size a w) (hb : a.heap.size ≤ b) (v0 v1 v2 v3 : Value) : Below a.heap.size a ((((w.setCell ⟨b, 0, none⟩ v0).setCell ⟨b, 1, none⟩ v1).setCell ⟨b, 2, none⟩ v2).setCell ⟨b, 3, none⟩ v3) :=
  (((h.setCell (p := ⟨b, 0, none⟩) hb _).setCell (p := ⟨b, 1, none⟩) hb _).setCell (p := ⟨b, 2, none⟩) hb _).setCell (p := ⟨b, 3, none⟩) hb _
theorem cell_up {w : World} {a : Addr} {v : Value} (o : Obj) (h : w.cell? a = some v) : (w.alloc o).cell? a = some v := by
  rw [(bel_alloc w o).cell (block_lt_of_cell h)]; exact h

theorem bel_alloc2 {a w : World} (h : Below a.heap.size a w) (o : Obj) : Below a.heap.size a (w.alloc o) := h.alloc h.size o
theorem join_any (k1 i1 : Int) (s1 : ByteArray) (b1 : Bool) (k2 i2 : Int) (s2 : ByteArray) (b2 : Bool) (c : Bool) (w : World) :
    Calls Tryd.prog 33 #[.agg #[.int .u8 k1, .int .i64 i1, .string s1, .bool b1], .agg #[.int .u8 k2, .int .i64 i2, .string s2, .bool b2], .bool c] w fun e w' => e = .returned (.tuple #[.agg #[.int .u8 (joinK (openV k1 i1 s1 b1) (openV k2 i2 s2 b2) c), .int .i64 0, .string ⟨#[]⟩, .bool (joinB (openV k1 i1 s1 b1) (openV k2 i2 s2 b2) c)], .int .i64 (joinE (openV k1 i1 s1 b1) (openV k2 i2 s2 b2))]) ∧ Below w.heap.size w w' := by
  obtain ⟨o1, ho1⟩ : ∃ o1, openV k1 i1 s1 b1 = o1 := ⟨_, rfl⟩
  obtain ⟨o2, ho2⟩ : ∃ o2, openV k2 i2 s2 b2 = o2 := ⟨_, rfl⟩
  rw [ho1, ho2]
  obtain ⟨W, hW⟩ : ∃ W, ((w.alloc (.cells #[.int .u8 k1, .int .i64 i1, .string s1, .bool b1] 24)).alloc (.cells #[.int .u8 k2, .int .i64 i2, .string s2, .bool b2] 24)).alloc (.cells #[.int .u8 0, .int .i64 0, .string ⟨#[]⟩, .bool false] 24) = W := ⟨_, rfl⟩
  have x0 := cell_regrown (show W.cell? ⟨w.heap.size, 0, none⟩ = some (.int .u8 k1) by rw [← hW]; exact cell_up _ (cell_two _ _ _ _ 0))
  have x1 := cell_regrown (show W.cell? ⟨w.heap.size, 1, none⟩ = some (.int .i64 i1) by rw [← hW]; exact cell_up _ (cell_two _ _ _ _ 1))
  have x2 := cell_regrown (show W.cell? ⟨w.heap.size, 2, none⟩ = some (.string s1) by rw [← hW]; exact cell_up _ (cell_two _ _ _ _ 2))
  have x3 := cell_regrown (show W.cell? ⟨w.heap.size, 3, none⟩ = some (.bool b1) by rw [← hW]; exact cell_up _ (cell_two _ _ _ _ 3))
  have y0 := cell_regrown (show W.cell? ⟨w.heap.size + 1, 0, none⟩ = some (.int .u8 k2) by rw [← hW]; exact cell_up _ (cell_two' _ _ _ _ 0))
  have y1 := cell_regrown (show W.cell? ⟨w.heap.size + 1, 1, none⟩ = some (.int .i64 i2) by rw [← hW]; exact cell_up _ (cell_two' _ _ _ _ 1))
  have y2 := cell_regrown (show W.cell? ⟨w.heap.size + 1, 2, none⟩ = some (.string s2) by rw [← hW]; exact cell_up _ (cell_two' _ _ _ _ 2))
  have y3 := cell_regrown (show W.cell? ⟨w.heap.size + 1, 3, none⟩ = some (.bool b2) by rw [← hW]; exact cell_up _ (cell_two' _ _ _ _ 3))
  have HB : Hid (Below w.heap.size w W) := Lib.hid (by rw [← hW]; exact ((bel_alloc _ _).alloc (by rw [size_alloc]; omega) _).alloc (by rw [size_alloc, size_alloc]; omega) _)
  have HS : Hid (SlotN W (w.heap.size + 1 + 1)) := Lib.hid (by rw [← hW]; have := slot_new ((w.alloc (.cells #[.int .u8 k1, .int .i64 i1, .string s1, .bool b1] 24)).alloc (.cells #[.int .u8 k2, .int .i64 i2, .string s2, .bool b2] 24)); rw [size_alloc, size_alloc] at this; exact this)
  have oA := fun d os => Calls.regrown_of (w := W) (d := d) (os := os) (open_any k1 i1 s1 b1 _)
  have oB := fun d os => Calls.regrown_of (w := W) (d := d) (os := os) (open_any k2 i2 s2 b2 _)
  rw [ho1] at oA
  rw [ho2] at oB
  clear ho1 ho2
  have HW := Lib.hid hW
  clear hW
  have T1 := Lib.hid (fun w => isTruth_any o1 w)
  have T2 := Lib.hid (fun w => isTruth_any o2 w)
  have S1 := Lib.hid (fun w => says_any o1 c w)
  have S2 := Lib.hid (fun w => says_any o2 c w)
  have N1 := Lib.hid (eq_nil' o1 _ rfl)
  have N2 := Lib.hid (eq_nil' o2 _ rfl)
  have HJ : Hid (∀ a1 a2 b1 b2 n1 n2, isT o1 = a1 → isT o2 = a2 → saysO o1 c = b1 → saysO o2 c = b2 → isNil o1 = n1 → isNil o2 = n2 → joinK o1 o2 c = (if a1 && a2 then (if b1 || b2 then 3 else if n1 || n2 then 0 else 3) else 0) ∧ joinB o1 o2 c = (if a1 && a2 then (if b1 || b2 then c else if n1 || n2 then false else !c) else false) ∧ joinE o1 o2 = (if a1 && a2 then 0 else 8)) := Lib.hid (by intro a1 a2 b1 b2 n1 n2 e1 e2 e3 e4 e5 e6; subst e1 e2 e3 e4 e5 e6; exact ⟨rfl, rfl, rfl⟩)
  cases ht1 : isT o1
  · rw [ht1] at T1
    have HR : Hid (joinK o1 o2 c = 0 ∧ joinB o1 o2 c = false ∧ joinE o1 o2 = 8) := Lib.hid (by simpa using HJ.out _ _ _ _ _ _ ht1 rfl rfl rfl rfl rfl)
    clear HJ
    clear ht1 S1 S2 N1 N2 T2
    go_enter Tryd.func33, Tryd.ntmps33
    go_wp2_with fail
    rw [HW.out]
    refine wp_region_quiet_below (by kernel_rfl) (by kernel_rfl) ?_
    repeat (quiet_step (first | (with_reducible exact oA _ _) | (with_reducible exact oB _ _)))
    refine wpQuiet_nil ?_
    intro _ hw'
    obtain ⟨⟨dq, osq⟩, hw''⟩ := hw'
    subst hw''
    clear x0 x1 x2 x3 y0 y1 y2 y3 oA oB
    have HBR : Hid (Below W.heap.size W (Sort.grow (redrawn W dq) osq)) := Lib.hid (below_regrown _ _ _)
    have HB2 : Hid (Below w.heap.size w (Sort.grow (redrawn W dq) osq)) := Lib.hid (bel_trans HB.out (below_regrown _ _ _))
    generalize Go.Sort.grow (redrawn W dq) osq = W2 at *
    have HB := HB2
    clear HB2 HW
    have HS2 : Hid (SlotN W2 (w.heap.size + 1 + 1)) := Lib.hid (HS.out.below HBR.out)
    clear HS HBR
    go_wp2_with fail
    refine (T1.out _).mono ?_
    rintro e w' ⟨rfl, rfl⟩
    obtain ⟨z0, z1, z2, z3, f0, f1, f2, f3, hlt⟩ := HS2.out
    go_wp2_with fail
    rw [HR.out.1, HR.out.2.1, HR.out.2.2]
    exact bodyPost_ret (v := .tuple #[.agg #[.int .u8 0, .int .i64 0, .string ⟨#[]⟩, .bool false], .int .i64 8]) (by simp [results, Tryd.results33, go_sem, HS2.out.s0, HS2.out.s1, HS2.out.s2, HS2.out.s3]) rfl ⟨rfl, bel_set HB.out (by omega) _ _ _ _⟩
  · rw [ht1] at T1
    cases ht2 : isT o2
    · rw [ht2] at T2
      have HR : Hid (joinK o1 o2 c = 0 ∧ joinB o1 o2 c = false ∧ joinE o1 o2 = 8) := Lib.hid (by simpa using HJ.out _ _ _ _ _ _ ht1 ht2 rfl rfl rfl rfl)
      clear HJ
      clear ht1 ht2 S1 S2 N1 N2
      go_enter Tryd.func33, Tryd.ntmps33
      go_wp2_with fail
      rw [HW.out]
      refine wp_region_quiet_below (by kernel_rfl) (by kernel_rfl) ?_
      repeat (quiet_step (first | (with_reducible exact oA _ _) | (with_reducible exact oB _ _)))
      refine wpQuiet_nil ?_
      intro _ hw'
      obtain ⟨⟨dq, osq⟩, hw''⟩ := hw'
      subst hw''
      clear x0 x1 x2 x3 y0 y1 y2 y3 oA oB
      have HBR : Hid (Below W.heap.size W (Sort.grow (redrawn W dq) osq)) := Lib.hid (below_regrown _ _ _)
      have HB2 : Hid (Below w.heap.size w (Sort.grow (redrawn W dq) osq)) := Lib.hid (bel_trans HB.out (below_regrown _ _ _))
      generalize Go.Sort.grow (redrawn W dq) osq = W2 at *
      have HB := HB2
      clear HB2 HW
      have HS2 : Hid (SlotN W2 (w.heap.size + 1 + 1)) := Lib.hid (HS.out.below HBR.out)
      clear HS HBR
      go_wp2_with fail
      refine (T1.out _).mono ?_
      rintro e w' ⟨rfl, rfl⟩
      go_wp2_with fail
      refine (T2.out _).mono ?_
      rintro e w' ⟨rfl, rfl⟩
      obtain ⟨z0, z1, z2, z3, f0, f1, f2, f3, hlt⟩ := HS2.out
      go_wp2_with fail
      rw [HR.out.1, HR.out.2.1, HR.out.2.2]
      exact bodyPost_ret (v := .tuple #[.agg #[.int .u8 0, .int .i64 0, .string ⟨#[]⟩, .bool false], .int .i64 8]) (by simp [results, Tryd.results33, go_sem, HS2.out.s0, HS2.out.s1, HS2.out.s2, HS2.out.s3]) rfl ⟨rfl, bel_set HB.out (by omega) _ _ _ _⟩
    · rw [ht2] at T2
      cases hs1 : saysO o1 c
      · rw [hs1] at S1
        cases hs2 : saysO o2 c
        · rw [hs2] at S2
          cases hn1 : isNil o1
          · rw [hn1] at N1
            cases hn2 : isNil o2
            · rw [hn2] at N2
              have HR : Hid (joinK o1 o2 c = 3 ∧ joinB o1 o2 c = (!c) ∧ joinE o1 o2 = 0) := Lib.hid (by simpa using HJ.out _ _ _ _ _ _ ht1 ht2 hs1 hs2 hn1 hn2)
              clear HJ
              clear ht1 ht2 hs1 hs2 hn1 hn2
              have n1 := N1.out
              have n2 := N2.out
              go_enter Tryd.func33, Tryd.ntmps33
              go_wp2_with fail
              rw [HW.out]
              refine wp_region_quiet_below (by kernel_rfl) (by kernel_rfl) ?_
              repeat (quiet_step (first | (with_reducible exact oA _ _) | (with_reducible exact oB _ _)))
              refine wpQuiet_nil ?_
              intro _ hw'
              obtain ⟨⟨dq, osq⟩, hw''⟩ := hw'
              subst hw''
              clear x0 x1 x2 x3 y0 y1 y2 y3 oA oB
              have HBR : Hid (Below W.heap.size W (Sort.grow (redrawn W dq) osq)) := Lib.hid (below_regrown _ _ _)
              have HB2 : Hid (Below w.heap.size w (Sort.grow (redrawn W dq) osq)) := Lib.hid (bel_trans HB.out (below_regrown _ _ _))
              generalize Go.Sort.grow (redrawn W dq) osq = W2 at *
              have HB := HB2
              clear HB2 HW
              have HS2 : Hid (SlotN W2 (w.heap.size + 1 + 1)) := Lib.hid (HS.out.below HBR.out)
              clear HS HBR
              go_wp2_with fail
              refine (T1.out _).mono ?_
              rintro e w' ⟨rfl, rfl⟩
              go_wp2_with fail
              refine (T2.out _).mono ?_
              rintro e w' ⟨rfl, rfl⟩
              go_wp2_with fail
              refine (S1.out _).mono ?_
              rintro e w' ⟨rfl, rfl⟩
              go_wp2_with fail
              refine (S2.out _).mono ?_
              rintro e w' ⟨rfl, rfl⟩
              go_wp2_with fail
              refine (truth_any _ _).mono ?_
              rintro e w3 ⟨rfl, hb3⟩
              have HB3 := Lib.hid (bel_trans HB.out hb3)
              have HS3 := Lib.hid (HS2.out.below hb3)
              clear hb3 HS2
              have HS2 := HS3
              obtain ⟨z0, z1, z2, z3, f0, f1, f2, f3, hlt⟩ := HS2.out
              go_wp2_with fail
              rw [HR.out.1, HR.out.2.1, HR.out.2.2]
              exact bodyPost_ret (v := .tuple #[.agg #[.int .u8 3, .int .i64 0, .string ⟨#[]⟩, .bool (!c)], .int .i64 0]) (by simp [results, Tryd.results33, go_sem, HS2.out.s0, HS2.out.s1, HS2.out.s2, HS2.out.s3]) rfl ⟨rfl, bel_set HB3.out (by omega) _ _ _ _⟩
            · rw [hn2] at N2
              have HR : Hid (joinK o1 o2 c = 0 ∧ joinB o1 o2 c = false ∧ joinE o1 o2 = 0) := Lib.hid (by simpa using HJ.out _ _ _ _ _ _ ht1 ht2 hs1 hs2 hn1 hn2)
              clear HJ
              clear ht1 ht2 hs1 hs2 hn1 hn2
              have n1 := N1.out
              have n2 := N2.out
              go_enter Tryd.func33, Tryd.ntmps33
              go_wp2_with fail
              rw [HW.out]
              refine wp_region_quiet_below (by kernel_rfl) (by kernel_rfl) ?_
              repeat (quiet_step (first | (with_reducible exact oA _ _) | (with_reducible exact oB _ _)))
              refine wpQuiet_nil ?_
              intro _ hw'
              obtain ⟨⟨dq, osq⟩, hw''⟩ := hw'
              subst hw''
              clear x0 x1 x2 x3 y0 y1 y2 y3 oA oB
              have HBR : Hid (Below W.heap.size W (Sort.grow (redrawn W dq) osq)) := Lib.hid (below_regrown _ _ _)
              have HB2 : Hid (Below w.heap.size w (Sort.grow (redrawn W dq) osq)) := Lib.hid (bel_trans HB.out (below_regrown _ _ _))
              generalize Go.Sort.grow (redrawn W dq) osq = W2 at *
              have HB := HB2
              clear HB2 HW
              have HS2 : Hid (SlotN W2 (w.heap.size + 1 + 1)) := Lib.hid (HS.out.below HBR.out)
              clear HS HBR
              go_wp2_with fail
              refine (T1.out _).mono ?_
              rintro e w' ⟨rfl, rfl⟩
              go_wp2_with fail
              refine (T2.out _).mono ?_
              rintro e w' ⟨rfl, rfl⟩
              go_wp2_with fail
              refine (S1.out _).mono ?_
              rintro e w' ⟨rfl, rfl⟩
              go_wp2_with fail
              refine (S2.out _).mono ?_
              rintro e w' ⟨rfl, rfl⟩
              obtain ⟨z0, z1, z2, z3, f0, f1, f2, f3, hlt⟩ := HS2.out
              go_wp2_with fail
              rw [HR.out.1, HR.out.2.1, HR.out.2.2]
              exact bodyPost_ret (v := .tuple #[.agg #[.int .u8 0, .int .i64 0, .string ⟨#[]⟩, .bool false], .int .i64 0]) (by simp [results, Tryd.results33, go_sem, HS2.out.s0, HS2.out.s1, HS2.out.s2, HS2.out.s3]) rfl ⟨rfl, bel_set HB.out (by omega) _ _ _ _⟩
          · rw [hn1] at N1
            have HR : Hid (joinK o1 o2 c = 0 ∧ joinB o1 o2 c = false ∧ joinE o1 o2 = 0) := Lib.hid (by simpa using HJ.out _ _ _ _ _ _ ht1 ht2 hs1 hs2 hn1 rfl)
            clear HJ
            clear ht1 ht2 hs1 hs2 hn1
            have n1 := N1.out
            go_enter Tryd.func33, Tryd.ntmps33
            go_wp2_with fail
            rw [HW.out]
            refine wp_region_quiet_below (by kernel_rfl) (by kernel_rfl) ?_
            repeat (quiet_step (first | (with_reducible exact oA _ _) | (with_reducible exact oB _ _)))
            refine wpQuiet_nil ?_
            intro _ hw'
            obtain ⟨⟨dq, osq⟩, hw''⟩ := hw'
            subst hw''
            clear x0 x1 x2 x3 y0 y1 y2 y3 oA oB
            have HBR : Hid (Below W.heap.size W (Sort.grow (redrawn W dq) osq)) := Lib.hid (below_regrown _ _ _)
            have HB2 : Hid (Below w.heap.size w (Sort.grow (redrawn W dq) osq)) := Lib.hid (bel_trans HB.out (below_regrown _ _ _))
            generalize Go.Sort.grow (redrawn W dq) osq = W2 at *
            have HB := HB2
            clear HB2 HW
            have HS2 : Hid (SlotN W2 (w.heap.size + 1 + 1)) := Lib.hid (HS.out.below HBR.out)
            clear HS HBR
            go_wp2_with fail
            refine (T1.out _).mono ?_
            rintro e w' ⟨rfl, rfl⟩
            go_wp2_with fail
            refine (T2.out _).mono ?_
            rintro e w' ⟨rfl, rfl⟩
            go_wp2_with fail
            refine (S1.out _).mono ?_
            rintro e w' ⟨rfl, rfl⟩
            go_wp2_with fail
            refine (S2.out _).mono ?_
            rintro e w' ⟨rfl, rfl⟩
            obtain ⟨z0, z1, z2, z3, f0, f1, f2, f3, hlt⟩ := HS2.out
            go_wp2_with fail
            rw [HR.out.1, HR.out.2.1, HR.out.2.2]
            exact bodyPost_ret (v := .tuple #[.agg #[.int .u8 0, .int .i64 0, .string ⟨#[]⟩, .bool false], .int .i64 0]) (by simp [results, Tryd.results33, go_sem, HS2.out.s0, HS2.out.s1, HS2.out.s2, HS2.out.s3]) rfl ⟨rfl, bel_set HB.out (by omega) _ _ _ _⟩
        · rw [hs2] at S2
          have HR : Hid (joinK o1 o2 c = 3 ∧ joinB o1 o2 c = c ∧ joinE o1 o2 = 0) := Lib.hid (by simpa using HJ.out _ _ _ _ _ _ ht1 ht2 hs1 hs2 rfl rfl)
          clear HJ
          clear ht1 ht2 hs1 hs2 N1 N2
          go_enter Tryd.func33, Tryd.ntmps33
          go_wp2_with fail
          rw [HW.out]
          refine wp_region_quiet_below (by kernel_rfl) (by kernel_rfl) ?_
          repeat (quiet_step (first | (with_reducible exact oA _ _) | (with_reducible exact oB _ _)))
          refine wpQuiet_nil ?_
          intro _ hw'
          obtain ⟨⟨dq, osq⟩, hw''⟩ := hw'
          subst hw''
          clear x0 x1 x2 x3 y0 y1 y2 y3 oA oB
          have HBR : Hid (Below W.heap.size W (Sort.grow (redrawn W dq) osq)) := Lib.hid (below_regrown _ _ _)
          have HB2 : Hid (Below w.heap.size w (Sort.grow (redrawn W dq) osq)) := Lib.hid (bel_trans HB.out (below_regrown _ _ _))
          generalize Go.Sort.grow (redrawn W dq) osq = W2 at *
          have HB := HB2
          clear HB2 HW
          have HS2 : Hid (SlotN W2 (w.heap.size + 1 + 1)) := Lib.hid (HS.out.below HBR.out)
          clear HS HBR
          go_wp2_with fail
          refine (T1.out _).mono ?_
          rintro e w' ⟨rfl, rfl⟩
          go_wp2_with fail
          refine (T2.out _).mono ?_
          rintro e w' ⟨rfl, rfl⟩
          go_wp2_with fail
          refine (S1.out _).mono ?_
          rintro e w' ⟨rfl, rfl⟩
          go_wp2_with fail
          refine (S2.out _).mono ?_
          rintro e w' ⟨rfl, rfl⟩
          go_wp2_with fail
          refine (truth_any _ _).mono ?_
          rintro e w3 ⟨rfl, hb3⟩
          have HB3 := Lib.hid (bel_trans HB.out hb3)
          have HS3 := Lib.hid (HS2.out.below hb3)
          clear hb3 HS2
          have HS2 := HS3
          obtain ⟨z0, z1, z2, z3, f0, f1, f2, f3, hlt⟩ := HS2.out
          go_wp2_with fail
          rw [HR.out.1, HR.out.2.1, HR.out.2.2]
          exact bodyPost_ret (v := .tuple #[.agg #[.int .u8 3, .int .i64 0, .string ⟨#[]⟩, .bool c], .int .i64 0]) (by simp [results, Tryd.results33, go_sem, HS2.out.s0, HS2.out.s1, HS2.out.s2, HS2.out.s3]) rfl ⟨rfl, bel_set HB3.out (by omega) _ _ _ _⟩
      · rw [hs1] at S1
        have HR : Hid (joinK o1 o2 c = 3 ∧ joinB o1 o2 c = c ∧ joinE o1 o2 = 0) := Lib.hid (by simpa using HJ.out _ _ _ _ _ _ ht1 ht2 hs1 rfl rfl rfl)
        clear HJ
        clear ht1 ht2 hs1 N1 N2
        go_enter Tryd.func33, Tryd.ntmps33
        go_wp2_with fail
        rw [HW.out]
        refine wp_region_quiet_below (by kernel_rfl) (by kernel_rfl) ?_
        repeat (quiet_step (first | (with_reducible exact oA _ _) | (with_reducible exact oB _ _)))
        refine wpQuiet_nil ?_
        intro _ hw'
        obtain ⟨⟨dq, osq⟩, hw''⟩ := hw'
        subst hw''
        clear x0 x1 x2 x3 y0 y1 y2 y3 oA oB
        have HBR : Hid (Below W.heap.size W (Sort.grow (redrawn W dq) osq)) := Lib.hid (below_regrown _ _ _)
        have HB2 : Hid (Below w.heap.size w (Sort.grow (redrawn W dq) osq)) := Lib.hid (bel_trans HB.out (below_regrown _ _ _))
        generalize Go.Sort.grow (redrawn W dq) osq = W2 at *
        have HB := HB2
        clear HB2 HW
        have HS2 : Hid (SlotN W2 (w.heap.size + 1 + 1)) := Lib.hid (HS.out.below HBR.out)
        clear HS HBR
        go_wp2_with fail
        refine (T1.out _).mono ?_
        rintro e w' ⟨rfl, rfl⟩
        go_wp2_with fail
        refine (T2.out _).mono ?_
        rintro e w' ⟨rfl, rfl⟩
        go_wp2_with fail
        refine (S1.out _).mono ?_
        rintro e w' ⟨rfl, rfl⟩
        go_wp2_with fail
        refine (truth_any _ _).mono ?_
        rintro e w3 ⟨rfl, hb3⟩
        have HB3 := Lib.hid (bel_trans HB.out hb3)
        have HS3 := Lib.hid (HS2.out.below hb3)
        clear hb3 HS2
        have HS2 := HS3
        obtain ⟨z0, z1, z2, z3, f0, f1, f2, f3, hlt⟩ := HS2.out
        go_wp2_with fail
        rw [HR.out.1, HR.out.2.1, HR.out.2.2]
        exact bodyPost_ret (v := .tuple #[.agg #[.int .u8 3, .int .i64 0, .string ⟨#[]⟩, .bool c], .int .i64 0]) (by simp [results, Tryd.results33, go_sem, HS2.out.s0, HS2.out.s1, HS2.out.s2, HS2.out.s3]) rfl ⟨rfl, bel_set HB3.out (by omega) _ _ _ _⟩
end Go.Proofs.YtdfgpaoehikdpabDoor.Cell
