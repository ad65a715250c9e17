/- The document's And, Or, Not. -/
import Derived.Test.YtdfgpaoehikdpabDoorCellR
import Derived.Deep.RegionHeld3
namespace Go.Proofs.YtdfgpaoehikdpabDoor.Cell
open Go.RowKit Go.Proofs.YtdfgpaoehikdpabDoor.Nums
set_option linter.unusedVariables false
set_option maxRecDepth 100000

structure AllF (w' : World) (x y z : Nat) (k1 i1 : Int) (s1 : ByteArray) (b1 : Bool) (k2 i2 : Int) (s2 : ByteArray) (b2 : Bool) (w : World) : Prop where
  a : Box w' x k1 i1 s1 b1
  b : Box w' y k2 i2 s2 b2
  s : SlotN w' z
  bel : Below w.heap.size w w'
theorem AllF.below {v w' : World} {x y z : Nat} {k1 i1 : Int} {s1 : ByteArray} {b1 : Bool} {k2 i2 : Int} {s2 : ByteArray} {b2 : Bool} {w : World} (h : AllF v x y z k1 i1 s1 b1 k2 i2 s2 b2 w) (hb : Below v.heap.size v w') : AllF w' x y z k1 i1 s1 b1 k2 i2 s2 b2 w :=
  ⟨h.a.below hb, h.b.below hb, h.s.below hb, bel_trans h.bel hb⟩
theorem AllF.drew {v : World} {x y z : Nat} {k1 i1 : Int} {s1 : ByteArray} {b1 : Bool} {k2 i2 : Int} {s2 : ByteArray} {b2 : Bool} {w : World} (h : AllF v x y z k1 i1 s1 b1 k2 i2 s2 b2 w) : AllF v.drew x y z k1 i1 s1 b1 k2 i2 s2 b2 w :=
  h.below ((Below.refl _ _).drew)
def opRK (t1 t2 m : Int) : Int := if t1 < 0 ∨ t2 < 0 then 0 else backK m
def opRB (t1 t2 m : Int) : Bool := if t1 < 0 ∨ t2 < 0 then false else backB m
def opRE (t1 t2 : Int) : Int := if t1 < 0 ∨ t2 < 0 then 8 else 0
set_option maxHeartbeats 4000000 in
theorem andR_any (k1 i1 : Int) (s1 : ByteArray) (b1 : Bool) (k2 i2 : Int) (s2 : ByteArray) (b2 : Bool) (w : World) :
    Calls Tryd.prog 20 #[.agg #[.int .u8 k1, .int .i64 i1, .string s1, .bool b1], .agg #[.int .u8 k2, .int .i64 i2, .string s2, .bool b2]] w fun e w' => e = .returned (.tuple #[.agg #[.int .u8 (opRK (threeR k1 b1) (threeR k2 b2) (min (threeR k1 b1) (threeR k2 b2))), .int .i64 0, .string ⟨#[]⟩, .bool (opRB (threeR k1 b1) (threeR k2 b2) (min (threeR k1 b1) (threeR k2 b2)))], .int .i64 (opRE (threeR k1 b1) (threeR k2 b2))]) ∧ Below w.heap.size w w' := by
  have T1 := Lib.hid (fun w => three_any k1 i1 s1 b1 w)
  have T2 := Lib.hid (fun w => three_any k2 i2 s2 b2 w)
  generalize threeR k1 b1 = t1 at *
  generalize threeR k2 b2 = t2 at *
  by_cases g1 : t1 < 0
  · have HR : Hid (opRK t1 t2 (min t1 t2) = 0 ∧ opRB t1 t2 (min t1 t2) = false ∧ opRE t1 t2 = 8) := Lib.hid (by unfold opRK opRB opRE; have h : t1 < 0 ∨ t2 < 0 := .inl g1; rw [if_pos h, if_pos h, if_pos h]; exact ⟨rfl, rfl, rfl⟩)
    obtain ⟨W, hW⟩ : ∃ W, ((w.alloc (.cells #[.int .u8 k1, .int .i64 i1, .string s1, .bool b1] 24)).alloc (.cells #[.int .u8 k2, .int .i64 i2, .string s2, .bool b2] 24)).alloc (.cells #[.int .u8 0, .int .i64 0, .string ⟨#[]⟩, .bool false] 24) = W := ⟨_, rfl⟩
    have HX : Hid (Box W w.heap.size k1 i1 s1 b1) := Lib.hid (by rw [← hW]; exact box_up (box_up (box_new w k1 i1 s1 b1) _) _)
    have HY : Hid (Box W (w.heap.size + 1) k2 i2 s2 b2) := Lib.hid (by rw [← hW]; have := box_new (w.alloc (.cells #[.int .u8 k1, .int .i64 i1, .string s1, .bool b1] 24)) k2 i2 s2 b2; rw [size_alloc] at this; exact box_up this _)
    have HB : Hid (Below w.heap.size w W) := Lib.hid (by rw [← hW]; exact ((bel_alloc _ _).alloc (by rw [size_alloc]; omega) _).alloc (by rw [size_alloc, size_alloc]; omega) _)
    have HS : Hid (SlotN W (w.heap.size + 1 + 1)) := Lib.hid (by rw [← hW]; have := slot_new ((w.alloc (.cells #[.int .u8 k1, .int .i64 i1, .string s1, .bool b1] 24)).alloc (.cells #[.int .u8 k2, .int .i64 i2, .string s2, .bool b2] 24)); rw [size_alloc, size_alloc] at this; exact this)
    have HW := Lib.hid hW
    clear hW
    go_enter Tryd.func20, Tryd.ntmps20
    go_wp2_with fail
    rw [HW.out]
    refine (T1.out _).mono ?_
    rintro e w3 ⟨rfl, hb⟩
    have HX' := Lib.hid (HX.out.below hb)
    have HY' := Lib.hid (HY.out.below hb)
    have HS' := Lib.hid (HS.out.below hb)
    have HB' := Lib.hid (bel_trans HB.out hb)
    clear hb HX HB HY HS
    have HX := HX'
    have HB := HB'
    have HY := HY'
    have HS := HS'
    clear HX' HB' HY' HS'
    have z0 := HS.out.c0
    have z1 := HS.out.c1
    have z2 := HS.out.c2
    have z3 := HS.out.c3
    have f0 := HS.out.f0
    have f1 := HS.out.f1
    have f2 := HS.out.f2
    have f3 := HS.out.f3
    go_wp2_with fail
    rw [HR.out.1, HR.out.2.1, HR.out.2.2]
    exact bodyPost_ret (v := .tuple #[.agg #[.int .u8 0, .int .i64 0, .string ⟨#[]⟩, .bool false], .int .i64 8]) (by simp [results, Tryd.results20, go_sem, HS.out.s0, HS.out.s1, HS.out.s2, HS.out.s3]) rfl ⟨rfl, bel_set HB.out (by omega) _ _ _ _⟩
  by_cases g2 : t2 < 0
  · have HR : Hid (opRK t1 t2 (min t1 t2) = 0 ∧ opRB t1 t2 (min t1 t2) = false ∧ opRE t1 t2 = 8) := Lib.hid (by unfold opRK opRB opRE; have h : t1 < 0 ∨ t2 < 0 := .inr g2; rw [if_pos h, if_pos h, if_pos h]; exact ⟨rfl, rfl, rfl⟩)
    obtain ⟨W, hW⟩ : ∃ W, ((w.alloc (.cells #[.int .u8 k1, .int .i64 i1, .string s1, .bool b1] 24)).alloc (.cells #[.int .u8 k2, .int .i64 i2, .string s2, .bool b2] 24)).alloc (.cells #[.int .u8 0, .int .i64 0, .string ⟨#[]⟩, .bool false] 24) = W := ⟨_, rfl⟩
    have HX : Hid (Box W w.heap.size k1 i1 s1 b1) := Lib.hid (by rw [← hW]; exact box_up (box_up (box_new w k1 i1 s1 b1) _) _)
    have HY : Hid (Box W (w.heap.size + 1) k2 i2 s2 b2) := Lib.hid (by rw [← hW]; have := box_new (w.alloc (.cells #[.int .u8 k1, .int .i64 i1, .string s1, .bool b1] 24)) k2 i2 s2 b2; rw [size_alloc] at this; exact box_up this _)
    have HB : Hid (Below w.heap.size w W) := Lib.hid (by rw [← hW]; exact ((bel_alloc _ _).alloc (by rw [size_alloc]; omega) _).alloc (by rw [size_alloc, size_alloc]; omega) _)
    have HS : Hid (SlotN W (w.heap.size + 1 + 1)) := Lib.hid (by rw [← hW]; have := slot_new ((w.alloc (.cells #[.int .u8 k1, .int .i64 i1, .string s1, .bool b1] 24)).alloc (.cells #[.int .u8 k2, .int .i64 i2, .string s2, .bool b2] 24)); rw [size_alloc, size_alloc] at this; exact this)
    have HW := Lib.hid hW
    clear hW
    go_enter Tryd.func20, Tryd.ntmps20
    go_wp2_with fail
    rw [HW.out]
    refine (T1.out _).mono ?_
    rintro e w3 ⟨rfl, hb⟩
    have HX' := Lib.hid (HX.out.below hb)
    have HY' := Lib.hid (HY.out.below hb)
    have HS' := Lib.hid (HS.out.below hb)
    have HB' := Lib.hid (bel_trans HB.out hb)
    clear hb HX HB HY HS
    have HX := HX'
    have HB := HB'
    have HY := HY'
    have HS := HS'
    clear HX' HB' HY' HS'
    have x0 := HX.out.c0
    have x1 := HX.out.c1
    have x2 := HX.out.c2
    have x3 := HX.out.c3
    have y0 := HY.out.c0
    have y1 := HY.out.c1
    have y2 := HY.out.c2
    have y3 := HY.out.c3
    go_wp2_with fail
    clear x0 x1 x2 x3 y0 y1 y2 y3
    refine (T2.out _).mono ?_
    rintro e w4 ⟨rfl, hb⟩
    have HX' := Lib.hid (HX.out.below hb)
    have HY' := Lib.hid (HY.out.below hb)
    have HS' := Lib.hid (HS.out.below hb)
    have HB' := Lib.hid (bel_trans HB.out hb)
    clear hb HX HB HY HS
    have HX := HX'
    have HB := HB'
    have HY := HY'
    have HS := HS'
    clear HX' HB' HY' HS'
    have z0 := HS.out.c0
    have z1 := HS.out.c1
    have z2 := HS.out.c2
    have z3 := HS.out.c3
    have f0 := HS.out.f0
    have f1 := HS.out.f1
    have f2 := HS.out.f2
    have f3 := HS.out.f3
    go_wp2_with fail
    rw [HR.out.1, HR.out.2.1, HR.out.2.2]
    exact bodyPost_ret (v := .tuple #[.agg #[.int .u8 0, .int .i64 0, .string ⟨#[]⟩, .bool false], .int .i64 8]) (by simp [results, Tryd.results20, go_sem, HS.out.s0, HS.out.s1, HS.out.s2, HS.out.s3]) rfl ⟨rfl, bel_set HB.out (by omega) _ _ _ _⟩
  have HR : Hid (opRK t1 t2 (min t1 t2) = backK (min t1 t2) ∧ opRB t1 t2 (min t1 t2) = backB (min t1 t2) ∧ opRE t1 t2 = 0) := Lib.hid (by
    unfold opRK opRB opRE
    have h : ¬ (t1 < 0 ∨ t2 < 0) := by omega
    rw [if_neg h, if_neg h, if_neg h]; exact ⟨rfl, rfl, rfl⟩)
  obtain ⟨W, hW⟩ : ∃ W, ((w.alloc (.cells #[.int .u8 k1, .int .i64 i1, .string s1, .bool b1] 24)).alloc (.cells #[.int .u8 k2, .int .i64 i2, .string s2, .bool b2] 24)).alloc (.cells #[.int .u8 0, .int .i64 0, .string ⟨#[]⟩, .bool false] 24) = W := ⟨_, rfl⟩
  have HX : Hid (Box W w.heap.size k1 i1 s1 b1) := Lib.hid (by rw [← hW]; exact box_up (box_up (box_new w k1 i1 s1 b1) _) _)
  have HY : Hid (Box W (w.heap.size + 1) k2 i2 s2 b2) := Lib.hid (by rw [← hW]; have := box_new (w.alloc (.cells #[.int .u8 k1, .int .i64 i1, .string s1, .bool b1] 24)) k2 i2 s2 b2; rw [size_alloc] at this; exact box_up this _)
  have HB : Hid (Below w.heap.size w W) := Lib.hid (by rw [← hW]; exact ((bel_alloc _ _).alloc (by rw [size_alloc]; omega) _).alloc (by rw [size_alloc, size_alloc]; omega) _)
  have HS : Hid (SlotN W (w.heap.size + 1 + 1)) := Lib.hid (by rw [← hW]; have := slot_new ((w.alloc (.cells #[.int .u8 k1, .int .i64 i1, .string s1, .bool b1] 24)).alloc (.cells #[.int .u8 k2, .int .i64 i2, .string s2, .bool b2] 24)); rw [size_alloc, size_alloc] at this; exact this)
  have HW := Lib.hid hW
  clear hW
  go_enter Tryd.func20, Tryd.ntmps20
  go_wp2_with fail
  rw [HW.out]
  refine (T1.out _).mono ?_
  rintro e w3 ⟨rfl, hb⟩
  have HX' := Lib.hid (HX.out.below hb)
  have HY' := Lib.hid (HY.out.below hb)
  have HS' := Lib.hid (HS.out.below hb)
  have HB' := Lib.hid (bel_trans HB.out hb)
  clear hb HX HB HY HS
  have HX := HX'
  have HB := HB'
  have HY := HY'
  have HS := HS'
  clear HX' HB' HY' HS'
  have x0 := HX.out.c0
  have x1 := HX.out.c1
  have x2 := HX.out.c2
  have x3 := HX.out.c3
  have y0 := HY.out.c0
  have y1 := HY.out.c1
  have y2 := HY.out.c2
  have y3 := HY.out.c3
  go_wp2_with fail
  clear x0 x1 x2 x3 y0 y1 y2 y3
  refine (T2.out _).mono ?_
  rintro e w4 ⟨rfl, hb⟩
  have HX' := Lib.hid (HX.out.below hb)
  have HY' := Lib.hid (HY.out.below hb)
  have HS' := Lib.hid (HS.out.below hb)
  have HB' := Lib.hid (bel_trans HB.out hb)
  clear hb HX HB HY HS
  have HX := HX'
  have HB := HB'
  have HY := HY'
  have HS := HS'
  clear HX' HB' HY' HS'
  have x0 := HX.out.c0
  have x1 := HX.out.c1
  have x2 := HX.out.c2
  have x3 := HX.out.c3
  have y0 := HY.out.c0
  have y1 := HY.out.c1
  have y2 := HY.out.c2
  have y3 := HY.out.c3
  go_wp2_with fail
  have hA : AllF w4 w.heap.size (w.heap.size + 1) (w.heap.size + 1 + 1) k1 i1 s1 b1 k2 i2 s2 b2 w := ⟨HX.out, HY.out, HS.out, HB.out⟩
  clear HX HY HS HB HW
  go_region_with (first | (go_at_call 34; first | ((with_reducible refine (T1.out _).mono ?_); rintro e w5 ⟨rfl, hb⟩; have hA := AllF.below (by first | assumption | exact AllF.drew (by assumption)) hb; clear hb; have y0 := hA.b.c0; have y1 := hA.b.c1; have y2 := hA.b.c2; have y3 := hA.b.c3) | ((with_reducible refine (T2.out _).mono ?_); rintro e w5 ⟨rfl, hb⟩; have hA := AllF.below (by first | assumption | exact AllF.drew (by assumption)) hb; clear hb)) | (go_at_call 35; refine (back_any _ _).mono ?_; rintro e w5 ⟨rfl, hb⟩; have hA := AllF.below (by first | assumption | exact AllF.drew (by assumption)) hb; clear hb; have z0 := hA.s.c0; have z1 := hA.s.c1; have z2 := hA.s.c2; have z3 := hA.s.c3; have f0 := hA.s.f0; have f1 := hA.s.f1; have f2 := hA.s.f2; have f3 := hA.s.f3))
  all_goals go_wp2_with fail
  all_goals rw [HR.out.1, HR.out.2.1, HR.out.2.2]
  all_goals exact bodyPost_ret (v := .tuple #[.agg #[.int .u8 (backK (min t1 t2)), .int .i64 0, .string ⟨#[]⟩, .bool (backB (min t1 t2))], .int .i64 0]) (by simp [results, Tryd.results20, go_sem, hA.s.s0, hA.s.s1, hA.s.s2, hA.s.s3]) rfl ⟨rfl, bel_set hA.bel (by omega) _ _ _ _⟩
set_option maxHeartbeats 4000000 in
theorem orR_any (k1 i1 : Int) (s1 : ByteArray) (b1 : Bool) (k2 i2 : Int) (s2 : ByteArray) (b2 : Bool) (w : World) :
    Calls Tryd.prog 22 #[.agg #[.int .u8 k1, .int .i64 i1, .string s1, .bool b1], .agg #[.int .u8 k2, .int .i64 i2, .string s2, .bool b2]] w fun e w' => e = .returned (.tuple #[.agg #[.int .u8 (opRK (threeR k1 b1) (threeR k2 b2) (max (threeR k1 b1) (threeR k2 b2))), .int .i64 0, .string ⟨#[]⟩, .bool (opRB (threeR k1 b1) (threeR k2 b2) (max (threeR k1 b1) (threeR k2 b2)))], .int .i64 (opRE (threeR k1 b1) (threeR k2 b2))]) ∧ Below w.heap.size w w' := by
  have T1 := Lib.hid (fun w => three_any k1 i1 s1 b1 w)
  have T2 := Lib.hid (fun w => three_any k2 i2 s2 b2 w)
  generalize threeR k1 b1 = t1 at *
  generalize threeR k2 b2 = t2 at *
  by_cases g1 : t1 < 0
  · have HR : Hid (opRK t1 t2 (max t1 t2) = 0 ∧ opRB t1 t2 (max t1 t2) = false ∧ opRE t1 t2 = 8) := Lib.hid (by unfold opRK opRB opRE; have h : t1 < 0 ∨ t2 < 0 := .inl g1; rw [if_pos h, if_pos h, if_pos h]; exact ⟨rfl, rfl, rfl⟩)
    obtain ⟨W, hW⟩ : ∃ W, ((w.alloc (.cells #[.int .u8 k1, .int .i64 i1, .string s1, .bool b1] 24)).alloc (.cells #[.int .u8 k2, .int .i64 i2, .string s2, .bool b2] 24)).alloc (.cells #[.int .u8 0, .int .i64 0, .string ⟨#[]⟩, .bool false] 24) = W := ⟨_, rfl⟩
    have HX : Hid (Box W w.heap.size k1 i1 s1 b1) := Lib.hid (by rw [← hW]; exact box_up (box_up (box_new w k1 i1 s1 b1) _) _)
    have HY : Hid (Box W (w.heap.size + 1) k2 i2 s2 b2) := Lib.hid (by rw [← hW]; have := box_new (w.alloc (.cells #[.int .u8 k1, .int .i64 i1, .string s1, .bool b1] 24)) k2 i2 s2 b2; rw [size_alloc] at this; exact box_up this _)
    have HB : Hid (Below w.heap.size w W) := Lib.hid (by rw [← hW]; exact ((bel_alloc _ _).alloc (by rw [size_alloc]; omega) _).alloc (by rw [size_alloc, size_alloc]; omega) _)
    have HS : Hid (SlotN W (w.heap.size + 1 + 1)) := Lib.hid (by rw [← hW]; have := slot_new ((w.alloc (.cells #[.int .u8 k1, .int .i64 i1, .string s1, .bool b1] 24)).alloc (.cells #[.int .u8 k2, .int .i64 i2, .string s2, .bool b2] 24)); rw [size_alloc, size_alloc] at this; exact this)
    have HW := Lib.hid hW
    clear hW
    go_enter Tryd.func22, Tryd.ntmps22
    go_wp2_with fail
    rw [HW.out]
    refine (T1.out _).mono ?_
    rintro e w3 ⟨rfl, hb⟩
    have HX' := Lib.hid (HX.out.below hb)
    have HY' := Lib.hid (HY.out.below hb)
    have HS' := Lib.hid (HS.out.below hb)
    have HB' := Lib.hid (bel_trans HB.out hb)
    clear hb HX HB HY HS
    have HX := HX'
    have HB := HB'
    have HY := HY'
    have HS := HS'
    clear HX' HB' HY' HS'
    have z0 := HS.out.c0
    have z1 := HS.out.c1
    have z2 := HS.out.c2
    have z3 := HS.out.c3
    have f0 := HS.out.f0
    have f1 := HS.out.f1
    have f2 := HS.out.f2
    have f3 := HS.out.f3
    go_wp2_with fail
    rw [HR.out.1, HR.out.2.1, HR.out.2.2]
    exact bodyPost_ret (v := .tuple #[.agg #[.int .u8 0, .int .i64 0, .string ⟨#[]⟩, .bool false], .int .i64 8]) (by simp [results, Tryd.results22, go_sem, HS.out.s0, HS.out.s1, HS.out.s2, HS.out.s3]) rfl ⟨rfl, bel_set HB.out (by omega) _ _ _ _⟩
  by_cases g2 : t2 < 0
  · have HR : Hid (opRK t1 t2 (max t1 t2) = 0 ∧ opRB t1 t2 (max t1 t2) = false ∧ opRE t1 t2 = 8) := Lib.hid (by unfold opRK opRB opRE; have h : t1 < 0 ∨ t2 < 0 := .inr g2; rw [if_pos h, if_pos h, if_pos h]; exact ⟨rfl, rfl, rfl⟩)
    obtain ⟨W, hW⟩ : ∃ W, ((w.alloc (.cells #[.int .u8 k1, .int .i64 i1, .string s1, .bool b1] 24)).alloc (.cells #[.int .u8 k2, .int .i64 i2, .string s2, .bool b2] 24)).alloc (.cells #[.int .u8 0, .int .i64 0, .string ⟨#[]⟩, .bool false] 24) = W := ⟨_, rfl⟩
    have HX : Hid (Box W w.heap.size k1 i1 s1 b1) := Lib.hid (by rw [← hW]; exact box_up (box_up (box_new w k1 i1 s1 b1) _) _)
    have HY : Hid (Box W (w.heap.size + 1) k2 i2 s2 b2) := Lib.hid (by rw [← hW]; have := box_new (w.alloc (.cells #[.int .u8 k1, .int .i64 i1, .string s1, .bool b1] 24)) k2 i2 s2 b2; rw [size_alloc] at this; exact box_up this _)
    have HB : Hid (Below w.heap.size w W) := Lib.hid (by rw [← hW]; exact ((bel_alloc _ _).alloc (by rw [size_alloc]; omega) _).alloc (by rw [size_alloc, size_alloc]; omega) _)
    have HS : Hid (SlotN W (w.heap.size + 1 + 1)) := Lib.hid (by rw [← hW]; have := slot_new ((w.alloc (.cells #[.int .u8 k1, .int .i64 i1, .string s1, .bool b1] 24)).alloc (.cells #[.int .u8 k2, .int .i64 i2, .string s2, .bool b2] 24)); rw [size_alloc, size_alloc] at this; exact this)
    have HW := Lib.hid hW
    clear hW
    go_enter Tryd.func22, Tryd.ntmps22
    go_wp2_with fail
    rw [HW.out]
    refine (T1.out _).mono ?_
    rintro e w3 ⟨rfl, hb⟩
    have HX' := Lib.hid (HX.out.below hb)
    have HY' := Lib.hid (HY.out.below hb)
    have HS' := Lib.hid (HS.out.below hb)
    have HB' := Lib.hid (bel_trans HB.out hb)
    clear hb HX HB HY HS
    have HX := HX'
    have HB := HB'
    have HY := HY'
    have HS := HS'
    clear HX' HB' HY' HS'
    have x0 := HX.out.c0
    have x1 := HX.out.c1
    have x2 := HX.out.c2
    have x3 := HX.out.c3
    have y0 := HY.out.c0
    have y1 := HY.out.c1
    have y2 := HY.out.c2
    have y3 := HY.out.c3
    go_wp2_with fail
    clear x0 x1 x2 x3 y0 y1 y2 y3
    refine (T2.out _).mono ?_
    rintro e w4 ⟨rfl, hb⟩
    have HX' := Lib.hid (HX.out.below hb)
    have HY' := Lib.hid (HY.out.below hb)
    have HS' := Lib.hid (HS.out.below hb)
    have HB' := Lib.hid (bel_trans HB.out hb)
    clear hb HX HB HY HS
    have HX := HX'
    have HB := HB'
    have HY := HY'
    have HS := HS'
    clear HX' HB' HY' HS'
    have z0 := HS.out.c0
    have z1 := HS.out.c1
    have z2 := HS.out.c2
    have z3 := HS.out.c3
    have f0 := HS.out.f0
    have f1 := HS.out.f1
    have f2 := HS.out.f2
    have f3 := HS.out.f3
    go_wp2_with fail
    rw [HR.out.1, HR.out.2.1, HR.out.2.2]
    exact bodyPost_ret (v := .tuple #[.agg #[.int .u8 0, .int .i64 0, .string ⟨#[]⟩, .bool false], .int .i64 8]) (by simp [results, Tryd.results22, go_sem, HS.out.s0, HS.out.s1, HS.out.s2, HS.out.s3]) rfl ⟨rfl, bel_set HB.out (by omega) _ _ _ _⟩
  have HR : Hid (opRK t1 t2 (max t1 t2) = backK (max t1 t2) ∧ opRB t1 t2 (max t1 t2) = backB (max t1 t2) ∧ opRE t1 t2 = 0) := Lib.hid (by
    unfold opRK opRB opRE
    have h : ¬ (t1 < 0 ∨ t2 < 0) := by omega
    rw [if_neg h, if_neg h, if_neg h]; exact ⟨rfl, rfl, rfl⟩)
  obtain ⟨W, hW⟩ : ∃ W, ((w.alloc (.cells #[.int .u8 k1, .int .i64 i1, .string s1, .bool b1] 24)).alloc (.cells #[.int .u8 k2, .int .i64 i2, .string s2, .bool b2] 24)).alloc (.cells #[.int .u8 0, .int .i64 0, .string ⟨#[]⟩, .bool false] 24) = W := ⟨_, rfl⟩
  have HX : Hid (Box W w.heap.size k1 i1 s1 b1) := Lib.hid (by rw [← hW]; exact box_up (box_up (box_new w k1 i1 s1 b1) _) _)
  have HY : Hid (Box W (w.heap.size + 1) k2 i2 s2 b2) := Lib.hid (by rw [← hW]; have := box_new (w.alloc (.cells #[.int .u8 k1, .int .i64 i1, .string s1, .bool b1] 24)) k2 i2 s2 b2; rw [size_alloc] at this; exact box_up this _)
  have HB : Hid (Below w.heap.size w W) := Lib.hid (by rw [← hW]; exact ((bel_alloc _ _).alloc (by rw [size_alloc]; omega) _).alloc (by rw [size_alloc, size_alloc]; omega) _)
  have HS : Hid (SlotN W (w.heap.size + 1 + 1)) := Lib.hid (by rw [← hW]; have := slot_new ((w.alloc (.cells #[.int .u8 k1, .int .i64 i1, .string s1, .bool b1] 24)).alloc (.cells #[.int .u8 k2, .int .i64 i2, .string s2, .bool b2] 24)); rw [size_alloc, size_alloc] at this; exact this)
  have HW := Lib.hid hW
  clear hW
  go_enter Tryd.func22, Tryd.ntmps22
  go_wp2_with fail
  rw [HW.out]
  refine (T1.out _).mono ?_
  rintro e w3 ⟨rfl, hb⟩
  have HX' := Lib.hid (HX.out.below hb)
  have HY' := Lib.hid (HY.out.below hb)
  have HS' := Lib.hid (HS.out.below hb)
  have HB' := Lib.hid (bel_trans HB.out hb)
  clear hb HX HB HY HS
  have HX := HX'
  have HB := HB'
  have HY := HY'
  have HS := HS'
  clear HX' HB' HY' HS'
  have x0 := HX.out.c0
  have x1 := HX.out.c1
  have x2 := HX.out.c2
  have x3 := HX.out.c3
  have y0 := HY.out.c0
  have y1 := HY.out.c1
  have y2 := HY.out.c2
  have y3 := HY.out.c3
  go_wp2_with fail
  clear x0 x1 x2 x3 y0 y1 y2 y3
  refine (T2.out _).mono ?_
  rintro e w4 ⟨rfl, hb⟩
  have HX' := Lib.hid (HX.out.below hb)
  have HY' := Lib.hid (HY.out.below hb)
  have HS' := Lib.hid (HS.out.below hb)
  have HB' := Lib.hid (bel_trans HB.out hb)
  clear hb HX HB HY HS
  have HX := HX'
  have HB := HB'
  have HY := HY'
  have HS := HS'
  clear HX' HB' HY' HS'
  have x0 := HX.out.c0
  have x1 := HX.out.c1
  have x2 := HX.out.c2
  have x3 := HX.out.c3
  have y0 := HY.out.c0
  have y1 := HY.out.c1
  have y2 := HY.out.c2
  have y3 := HY.out.c3
  go_wp2_with fail
  have hA : AllF w4 w.heap.size (w.heap.size + 1) (w.heap.size + 1 + 1) k1 i1 s1 b1 k2 i2 s2 b2 w := ⟨HX.out, HY.out, HS.out, HB.out⟩
  clear HX HY HS HB HW
  go_region_with (first | (go_at_call 34; first | ((with_reducible refine (T1.out _).mono ?_); rintro e w5 ⟨rfl, hb⟩; have hA := AllF.below (by first | assumption | exact AllF.drew (by assumption)) hb; clear hb; have y0 := hA.b.c0; have y1 := hA.b.c1; have y2 := hA.b.c2; have y3 := hA.b.c3) | ((with_reducible refine (T2.out _).mono ?_); rintro e w5 ⟨rfl, hb⟩; have hA := AllF.below (by first | assumption | exact AllF.drew (by assumption)) hb; clear hb)) | (go_at_call 35; refine (back_any _ _).mono ?_; rintro e w5 ⟨rfl, hb⟩; have hA := AllF.below (by first | assumption | exact AllF.drew (by assumption)) hb; clear hb; have z0 := hA.s.c0; have z1 := hA.s.c1; have z2 := hA.s.c2; have z3 := hA.s.c3; have f0 := hA.s.f0; have f1 := hA.s.f1; have f2 := hA.s.f2; have f3 := hA.s.f3))
  all_goals go_wp2_with fail
  all_goals rw [HR.out.1, HR.out.2.1, HR.out.2.2]
  all_goals exact bodyPost_ret (v := .tuple #[.agg #[.int .u8 (backK (max t1 t2)), .int .i64 0, .string ⟨#[]⟩, .bool (backB (max t1 t2))], .int .i64 0]) (by simp [results, Tryd.results22, go_sem, hA.s.s0, hA.s.s1, hA.s.s2, hA.s.s3]) rfl ⟨rfl, bel_set hA.bel (by omega) _ _ _ _⟩
theorem three_bd (k : Int) (b : Bool) : -1 ≤ threeR k b ∧ threeR k b ≤ 2 := by
  unfold threeR; repeat' split
  all_goals omega
theorem notR_any (k i : Int) (s : ByteArray) (b : Bool) (w : World) :
    Calls Tryd.prog 23 #[.agg #[.int .u8 k, .int .i64 i, .string s, .bool b]] w fun e w' => e = .returned (.tuple #[.agg #[.int .u8 (opRK (threeR k b) (threeR k b) (2 - threeR k b)), .int .i64 0, .string ⟨#[]⟩, .bool (opRB (threeR k b) (threeR k b) (2 - threeR k b))], .int .i64 (opRE (threeR k b) (threeR k b))]) ∧ Below w.heap.size w w' := by
  have bd := three_bd k b
  have T1 := Lib.hid (fun w => three_any k i s b w)
  generalize threeR k b = t1 at *
  by_cases g1 : t1 < 0
  · have HR : Hid (opRK t1 t1 (2 - t1) = 0 ∧ opRB t1 t1 (2 - t1) = false ∧ opRE t1 t1 = 8) := Lib.hid (by
      unfold opRK opRB opRE
      have h : t1 < 0 ∨ t1 < 0 := .inl g1
      rw [if_pos h, if_pos h, if_pos h]; exact ⟨rfl, rfl, rfl⟩)
    obtain ⟨W, hW⟩ : ∃ W, (w.alloc (.cells #[.int .u8 k, .int .i64 i, .string s, .bool b] 24)).alloc (.cells #[.int .u8 0, .int .i64 0, .string ⟨#[]⟩, .bool false] 24) = W := ⟨_, rfl⟩
    have HX : Hid (Box W w.heap.size k i s b) := Lib.hid (by rw [← hW]; exact box_up (box_new w k i s b) _)
    have HB : Hid (Below w.heap.size w W) := Lib.hid (by rw [← hW]; exact (bel_alloc _ _).alloc (by rw [size_alloc]; omega) _)
    have HS : Hid (SlotN W (w.heap.size + 1)) := Lib.hid (by rw [← hW]; have := slot_new (w.alloc (.cells #[.int .u8 k, .int .i64 i, .string s, .bool b] 24)); rw [size_alloc] at this; exact this)
    have HW := Lib.hid hW
    clear hW
    go_enter Tryd.func23, Tryd.ntmps23
    go_wp2_with fail
    rw [HW.out]
    refine (T1.out _).mono ?_
    rintro e w3 ⟨rfl, hb⟩
    have HX' := Lib.hid (HX.out.below hb)
    have HS' := Lib.hid (HS.out.below hb)
    have HB' := Lib.hid (bel_trans HB.out hb)
    clear hb HX HB HS
    have HX := HX'
    have HB := HB'
    have HS := HS'
    clear HX' HB' HS'
    have z0 := HS.out.c0
    have z1 := HS.out.c1
    have z2 := HS.out.c2
    have z3 := HS.out.c3
    have f0 := HS.out.f0
    have f1 := HS.out.f1
    have f2 := HS.out.f2
    have f3 := HS.out.f3
    go_wp2_with fail
    rw [HR.out.1, HR.out.2.1, HR.out.2.2]
    exact bodyPost_ret (v := .tuple #[.agg #[.int .u8 0, .int .i64 0, .string ⟨#[]⟩, .bool false], .int .i64 8]) (by simp [results, Tryd.results23, go_sem, HS.out.s0, HS.out.s1, HS.out.s2, HS.out.s3]) rfl ⟨rfl, bel_set HB.out (by omega) _ _ _ _⟩
  have HR : Hid (opRK t1 t1 (2 - t1) = backK (2 - t1) ∧ opRB t1 t1 (2 - t1) = backB (2 - t1) ∧ opRE t1 t1 = 0) := Lib.hid (by
    unfold opRK opRB opRE
    have h : ¬ (t1 < 0 ∨ t1 < 0) := by omega
    rw [if_neg h, if_neg h, if_neg h]; exact ⟨rfl, rfl, rfl⟩)
  obtain ⟨W, hW⟩ : ∃ W, (w.alloc (.cells #[.int .u8 k, .int .i64 i, .string s, .bool b] 24)).alloc (.cells #[.int .u8 0, .int .i64 0, .string ⟨#[]⟩, .bool false] 24) = W := ⟨_, rfl⟩
  have HX : Hid (Box W w.heap.size k i s b) := Lib.hid (by rw [← hW]; exact box_up (box_new w k i s b) _)
  have HB : Hid (Below w.heap.size w W) := Lib.hid (by rw [← hW]; exact (bel_alloc _ _).alloc (by rw [size_alloc]; omega) _)
  have HS : Hid (SlotN W (w.heap.size + 1)) := Lib.hid (by rw [← hW]; have := slot_new (w.alloc (.cells #[.int .u8 k, .int .i64 i, .string s, .bool b] 24)); rw [size_alloc] at this; exact this)
  have HW := Lib.hid hW
  clear hW
  go_enter Tryd.func23, Tryd.ntmps23
  go_wp2_with fail
  rw [HW.out]
  refine (T1.out _).mono ?_
  rintro e w3 ⟨rfl, hb⟩
  have HX' := Lib.hid (HX.out.below hb)
  have HS' := Lib.hid (HS.out.below hb)
  have HB' := Lib.hid (bel_trans HB.out hb)
  clear hb HX HB HS
  have HX := HX'
  have HB := HB'
  have HS := HS'
  clear HX' HB' HS'
  have x0 := HX.out.c0
  have x1 := HX.out.c1
  have x2 := HX.out.c2
  have x3 := HX.out.c3
  go_wp2_with fail
  clear x0 x1 x2 x3
  refine (T1.out _).mono ?_
  rintro e w4 ⟨rfl, hb⟩
  have HX' := Lib.hid (HX.out.below hb)
  have HS' := Lib.hid (HS.out.below hb)
  have HB' := Lib.hid (bel_trans HB.out hb)
  clear hb HX HB HS
  have HX := HX'
  have HB := HB'
  have HS := HS'
  clear HX' HB' HS'
  go_wp2_with fail
  refine (back_any _ _).mono ?_
  rintro e w5 ⟨rfl, hb⟩
  have HX' := Lib.hid (HX.out.below hb)
  have HS' := Lib.hid (HS.out.below hb)
  have HB' := Lib.hid (bel_trans HB.out hb)
  clear hb HX HB HS
  have HX := HX'
  have HB := HB'
  have HS := HS'
  clear HX' HB' HS'
  have z0 := HS.out.c0
  have z1 := HS.out.c1
  have z2 := HS.out.c2
  have z3 := HS.out.c3
  have f0 := HS.out.f0
  have f1 := HS.out.f1
  have f2 := HS.out.f2
  have f3 := HS.out.f3
  go_wp2_with fail
  rw [HR.out.1, HR.out.2.1, HR.out.2.2]
  exact bodyPost_ret (v := .tuple #[.agg #[.int .u8 (backK (2 - t1)), .int .i64 0, .string ⟨#[]⟩, .bool (backB (2 - t1))], .int .i64 0]) (by simp [results, Tryd.results23, go_sem, HS.out.s0, HS.out.s1, HS.out.s2, HS.out.s3]) rfl ⟨rfl, bel_set HB.out (by omega) _ _ _ _⟩
end Go.Proofs.YtdfgpaoehikdpabDoor.Cell
