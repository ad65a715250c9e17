/- Picked by program. -/
import Derived.Test.YtfabcnbblhadnaaDoorCellJ2
import Derived.WalkKit
import Derived.Lib.Hide
import Derived.Outline
import Derived.Below
import Derived.WalkSpells
import Derived.WalkLawsBesides
import Derived.Deep.RegionWith
import Derived.Deep.QuietTactic
import Derived.BigQuiet
import Derived.Lib.QuietBelow
namespace Go.Proofs.YtfabcnbblhadnaaDoor.Cell
open Go.RowKit Go.Proofs.YtfabcnbblhadnaaDoor.Nums
set_option linter.unusedVariables false
set_option maxRecDepth 100000
section -- XCell
open Go.RowKit Go.Proofs.YtfabcnbblhadnaaDoor.Nums
def openV (k i : Int) (s : ByteArray) (b : Bool) : OV := if k = 0 then .nil else if k = 3 then .bool b else if k = 1 then .int i else if k = 2 then .str s else .odd k i s b
attribute [local go_sem] ta_nb ta_ni ta_ns ta_bb ta_bi ta_bs tp_b ta_ib ta_ii ta_is tp_i ta_sb ta_si ta_ss tp_s ta_ob ta_oi ta_os
def rankO : OV → Int
  | .nil => 0
  | .bool _ => 1
  | .int _ => 2
  | .str _ => 3
  | .odd .. => 4
def cmpI (x y : Int) : Int := if x < y then -1 else if y < x then 1 else 0
def cmpB (x y : Bool) : Int := if x = y then 0 else if y then -1 else 1
def orderO (x y : OV) : Int := if rankO x = rankO y then (match x, y with
  | .bool a, .bool b => cmpB a b
  | .int a, .int b => cmpI a b
  | .str a, .str b => Go.Lib.compareBytes a.data.toList b.data.toList
  | _, _ => 0) else cmpI (rankO x) (rankO y)
end
section -- XCellR
open Go.RowKit Go.Proofs.YtfabcnbblhadnaaDoor.Nums
theorem box_up {w : World} {x : Nat} {k i : Int} {s : ByteArray} {b : Bool} (h : Box w x k i s b) (o : Obj) : Box (w.alloc o) x k i s b := h.below (bel_alloc _ _)
def placeR (k : Int) (b : Bool) : Int := if k = 3 then (if b then 2 else 1) else if k = 1 then 3 else if k = 2 then 4 else 0
theorem place_any (k i : Int) (s : ByteArray) (b : Bool) (w : World) :
    Calls Tryd.prog 42 #[.agg #[.int .u8 k, .int .i64 i, .string s, .bool b]] w fun e w' => e = .returned (.int .i64 (placeR k b)) ∧ Below w.heap.size w w' := by
  have HP : Hid (∀ r, placeR k b = r → placeR k b = r) := Lib.hid (fun _ h => h)
  clear HP
  by_cases h3 : k = 3
  · subst h3
    cases b
    · have HP : Hid (placeR 3 false = 1) := Lib.hid rfl
      go_enter Tryd.func42, Tryd.ntmps42
      go_wp2_with fail
      go_ret
      exact ⟨by rw [HP.out]; rfl, bel_alloc _ _⟩
    · have HP : Hid (placeR 3 true = 2) := Lib.hid rfl
      go_enter Tryd.func42, Tryd.ntmps42
      go_wp2_with fail
      go_ret
      exact ⟨by rw [HP.out]; rfl, bel_alloc _ _⟩
  by_cases h1 : k = 1
  · subst h1
    have HP : Hid (placeR 1 b = 3) := Lib.hid rfl
    go_enter Tryd.func42, Tryd.ntmps42
    go_wp2_with fail
    go_ret
    exact ⟨by rw [HP.out]; rfl, bel_alloc _ _⟩
  by_cases h2 : k = 2
  · subst h2
    have HP : Hid (placeR 2 b = 4) := Lib.hid rfl
    go_enter Tryd.func42, Tryd.ntmps42
    go_wp2_with fail
    go_ret
    exact ⟨by rw [HP.out]; rfl, bel_alloc _ _⟩
  have HP : Hid (placeR k b = 0) := Lib.hid (by unfold placeR; rw [if_neg h3, if_neg h1, if_neg h2])
  have g1 : (k == 1) = false := by simpa using h1
  have g2 : (k == 2) = false := by simpa using h2
  have g3 : (k == 3) = false := by simpa using h3
  clear h1 h2 h3
  go_enter Tryd.func42, Tryd.ntmps42
  go_wp2_with fail
  go_ret
  exact ⟨by rw [HP.out]; rfl, bel_alloc _ _⟩
end
section -- XCellS
open Go.RowKit Go.Proofs.YtfabcnbblhadnaaDoor.Nums
def lessR (k1 i1 : Int) (s1 : ByteArray) (b1 : Bool) (k2 i2 : Int) (s2 : ByteArray) (b2 : Bool) : Bool :=
  if placeR k1 b1 = placeR k2 b2 then (if k1 = 1 then decide (i1 < i2) else if k1 = 2 then Go.Op.bytesLess s1.toList s2.toList else false) else decide (placeR k1 b1 < placeR k2 b2)
theorem lessR_any (k1 i1 : Int) (s1 : ByteArray) (b1 : Bool) (k2 i2 : Int) (s2 : ByteArray) (b2 : Bool) (w : World) :
    Calls Tryd.prog 25 #[.agg #[.int .u8 k1, .int .i64 i1, .string s1, .bool b1], .agg #[.int .u8 k2, .int .i64 i2, .string s2, .bool b2]] w fun e w' => e = .returned (.bool (lessR k1 i1 s1 b1 k2 i2 s2 b2)) ∧ Below w.heap.size w w' := by
  obtain ⟨p1, hp1⟩ : ∃ p, placeR k1 b1 = p := ⟨_, rfl⟩
  obtain ⟨p2, hp2⟩ : ∃ p, placeR k2 b2 = p := ⟨_, rfl⟩
  have P1 := Lib.hid (fun w => place_any k1 i1 s1 b1 w)
  have P2 := Lib.hid (fun w => place_any k2 i2 s2 b2 w)
  rw [hp1] at P1
  rw [hp2] at P2
  by_cases hp : p1 = p2
  · have hq : (p1 == p2) = true := by simpa using hp
    by_cases h1 : k1 = 1
    · subst h1
      cases gi : decide (i1 < i2)
      · have HL : Hid (lessR 1 i1 s1 b1 k2 i2 s2 b2 = false) := Lib.hid (by unfold lessR; rw [if_pos (by rw [hp1, hp2, hp])]; rw [if_pos rfl, gi])
        obtain ⟨W, hW⟩ : ∃ W, (w.alloc (.cells #[.int .u8 1, .int .i64 i1, .string s1, .bool b1] 43)).alloc (.cells #[.int .u8 k2, .int .i64 i2, .string s2, .bool b2] 43) = W := ⟨_, rfl⟩
        have HX : Hid (Box W w.heap.size 1 i1 s1 b1) := Lib.hid (by rw [← hW]; exact box_up (box_new w 1 i1 s1 b1) _)
        have HY : Hid (Box W (w.heap.size + 1) k2 i2 s2 b2) := Lib.hid (by rw [← hW]; have := box_new (w.alloc (.cells #[.int .u8 1, .int .i64 i1, .string s1, .bool b1] 43)) k2 i2 s2 b2; rw [size_alloc] at this; exact this)
        have HB : Hid (Below w.heap.size w W) := Lib.hid (by rw [← hW]; exact (bel_alloc _ _).alloc (by rw [size_alloc]; omega) _)
        have HW := Lib.hid hW
        clear hW
        clear hp hp1 hp2
        go_enter Tryd.func25, Tryd.ntmps25
        go_wp2_with fail
        rw [HW.out]
        have x0 := HX.out.c0
        have x1 := HX.out.c1
        have x2 := HX.out.c2
        have x3 := HX.out.c3
        have y0 := HY.out.c0
        have y1 := HY.out.c1
        have y2 := HY.out.c2
        have y3 := HY.out.c3
        replace x0 := cell_regrown x0
        replace x1 := cell_regrown x1
        replace x2 := cell_regrown x2
        replace x3 := cell_regrown x3
        replace y0 := cell_regrown y0
        replace y1 := cell_regrown y1
        replace y2 := cell_regrown y2
        replace y3 := cell_regrown y3
        have pA := fun d os => Calls.regrown_of (w := W) (d := d) (os := os) (P1.out _)
        have pB := fun d os => Calls.regrown_of (w := W) (d := d) (os := os) (P2.out _)
        refine wp_region_quiet_below (by kernel_rfl) (by kernel_rfl) ?_
        repeat (quiet_step (first | (with_reducible exact pA _ _) | (with_reducible exact pB _ _)))
        refine wpQuiet_nil ?_
        intro _ hw'
        obtain ⟨⟨dq, osq⟩, hw''⟩ := hw'
        subst hw''
        clear x0 x1 x2 x3 y0 y1 y2 y3 pA pB
        have hbr := below_regrown W dq osq
        have HX' := Lib.hid (HX.out.below hbr)
        have HY' := Lib.hid (HY.out.below hbr)
        have HB' := Lib.hid (bel_trans HB.out hbr)
        clear hbr
        generalize Go.Sort.grow (redrawn W dq) osq = W2 at *
        clear HX HB HY
        have HX := HX'
        have HB := HB'
        have HY := HY'
        clear HX' HB' HY'
        have x0 := HX.out.c0
        have x1 := HX.out.c1
        have x2 := HX.out.c2
        have x3 := HX.out.c3
        have y0 := HY.out.c0
        have y1 := HY.out.c1
        have y2 := HY.out.c2
        have y3 := HY.out.c3
        go_wp2
        go_ret
        exact ⟨by rw [HL.out]; rfl, HB.out⟩
      · have HL : Hid (lessR 1 i1 s1 b1 k2 i2 s2 b2 = true) := Lib.hid (by unfold lessR; rw [if_pos (by rw [hp1, hp2, hp])]; rw [if_pos rfl, gi])
        obtain ⟨W, hW⟩ : ∃ W, (w.alloc (.cells #[.int .u8 1, .int .i64 i1, .string s1, .bool b1] 43)).alloc (.cells #[.int .u8 k2, .int .i64 i2, .string s2, .bool b2] 43) = W := ⟨_, rfl⟩
        have HX : Hid (Box W w.heap.size 1 i1 s1 b1) := Lib.hid (by rw [← hW]; exact box_up (box_new w 1 i1 s1 b1) _)
        have HY : Hid (Box W (w.heap.size + 1) k2 i2 s2 b2) := Lib.hid (by rw [← hW]; have := box_new (w.alloc (.cells #[.int .u8 1, .int .i64 i1, .string s1, .bool b1] 43)) k2 i2 s2 b2; rw [size_alloc] at this; exact this)
        have HB : Hid (Below w.heap.size w W) := Lib.hid (by rw [← hW]; exact (bel_alloc _ _).alloc (by rw [size_alloc]; omega) _)
        have HW := Lib.hid hW
        clear hW
        clear hp hp1 hp2
        go_enter Tryd.func25, Tryd.ntmps25
        go_wp2_with fail
        rw [HW.out]
        have x0 := HX.out.c0
        have x1 := HX.out.c1
        have x2 := HX.out.c2
        have x3 := HX.out.c3
        have y0 := HY.out.c0
        have y1 := HY.out.c1
        have y2 := HY.out.c2
        have y3 := HY.out.c3
        replace x0 := cell_regrown x0
        replace x1 := cell_regrown x1
        replace x2 := cell_regrown x2
        replace x3 := cell_regrown x3
        replace y0 := cell_regrown y0
        replace y1 := cell_regrown y1
        replace y2 := cell_regrown y2
        replace y3 := cell_regrown y3
        have pA := fun d os => Calls.regrown_of (w := W) (d := d) (os := os) (P1.out _)
        have pB := fun d os => Calls.regrown_of (w := W) (d := d) (os := os) (P2.out _)
        refine wp_region_quiet_below (by kernel_rfl) (by kernel_rfl) ?_
        repeat (quiet_step (first | (with_reducible exact pA _ _) | (with_reducible exact pB _ _)))
        refine wpQuiet_nil ?_
        intro _ hw'
        obtain ⟨⟨dq, osq⟩, hw''⟩ := hw'
        subst hw''
        clear x0 x1 x2 x3 y0 y1 y2 y3 pA pB
        have hbr := below_regrown W dq osq
        have HX' := Lib.hid (HX.out.below hbr)
        have HY' := Lib.hid (HY.out.below hbr)
        have HB' := Lib.hid (bel_trans HB.out hbr)
        clear hbr
        generalize Go.Sort.grow (redrawn W dq) osq = W2 at *
        clear HX HB HY
        have HX := HX'
        have HB := HB'
        have HY := HY'
        clear HX' HB' HY'
        have x0 := HX.out.c0
        have x1 := HX.out.c1
        have x2 := HX.out.c2
        have x3 := HX.out.c3
        have y0 := HY.out.c0
        have y1 := HY.out.c1
        have y2 := HY.out.c2
        have y3 := HY.out.c3
        go_wp2
        go_ret
        exact ⟨by rw [HL.out]; rfl, HB.out⟩
    by_cases h2 : k1 = 2
    · subst h2
      cases gi : Go.Op.bytesLess s1.toList s2.toList
      · have HL : Hid (lessR 2 i1 s1 b1 k2 i2 s2 b2 = false) := Lib.hid (by unfold lessR; rw [if_pos (by rw [hp1, hp2, hp])]; rw [if_neg (by decide), if_pos rfl, gi])
        obtain ⟨W, hW⟩ : ∃ W, (w.alloc (.cells #[.int .u8 2, .int .i64 i1, .string s1, .bool b1] 43)).alloc (.cells #[.int .u8 k2, .int .i64 i2, .string s2, .bool b2] 43) = W := ⟨_, rfl⟩
        have HX : Hid (Box W w.heap.size 2 i1 s1 b1) := Lib.hid (by rw [← hW]; exact box_up (box_new w 2 i1 s1 b1) _)
        have HY : Hid (Box W (w.heap.size + 1) k2 i2 s2 b2) := Lib.hid (by rw [← hW]; have := box_new (w.alloc (.cells #[.int .u8 2, .int .i64 i1, .string s1, .bool b1] 43)) k2 i2 s2 b2; rw [size_alloc] at this; exact this)
        have HB : Hid (Below w.heap.size w W) := Lib.hid (by rw [← hW]; exact (bel_alloc _ _).alloc (by rw [size_alloc]; omega) _)
        have HW := Lib.hid hW
        clear hW
        clear hp hp1 hp2
        go_enter Tryd.func25, Tryd.ntmps25
        go_wp2_with fail
        rw [HW.out]
        have x0 := HX.out.c0
        have x1 := HX.out.c1
        have x2 := HX.out.c2
        have x3 := HX.out.c3
        have y0 := HY.out.c0
        have y1 := HY.out.c1
        have y2 := HY.out.c2
        have y3 := HY.out.c3
        replace x0 := cell_regrown x0
        replace x1 := cell_regrown x1
        replace x2 := cell_regrown x2
        replace x3 := cell_regrown x3
        replace y0 := cell_regrown y0
        replace y1 := cell_regrown y1
        replace y2 := cell_regrown y2
        replace y3 := cell_regrown y3
        have pA := fun d os => Calls.regrown_of (w := W) (d := d) (os := os) (P1.out _)
        have pB := fun d os => Calls.regrown_of (w := W) (d := d) (os := os) (P2.out _)
        refine wp_region_quiet_below (by kernel_rfl) (by kernel_rfl) ?_
        repeat (quiet_step (first | (with_reducible exact pA _ _) | (with_reducible exact pB _ _)))
        refine wpQuiet_nil ?_
        intro _ hw'
        obtain ⟨⟨dq, osq⟩, hw''⟩ := hw'
        subst hw''
        clear x0 x1 x2 x3 y0 y1 y2 y3 pA pB
        have hbr := below_regrown W dq osq
        have HX' := Lib.hid (HX.out.below hbr)
        have HY' := Lib.hid (HY.out.below hbr)
        have HB' := Lib.hid (bel_trans HB.out hbr)
        clear hbr
        generalize Go.Sort.grow (redrawn W dq) osq = W2 at *
        clear HX HB HY
        have HX := HX'
        have HB := HB'
        have HY := HY'
        clear HX' HB' HY'
        have x0 := HX.out.c0
        have x1 := HX.out.c1
        have x2 := HX.out.c2
        have x3 := HX.out.c3
        have y0 := HY.out.c0
        have y1 := HY.out.c1
        have y2 := HY.out.c2
        have y3 := HY.out.c3
        go_wp2
        go_ret
        exact ⟨by rw [HL.out]; rfl, HB.out⟩
      · have HL : Hid (lessR 2 i1 s1 b1 k2 i2 s2 b2 = true) := Lib.hid (by unfold lessR; rw [if_pos (by rw [hp1, hp2, hp])]; rw [if_neg (by decide), if_pos rfl, gi])
        obtain ⟨W, hW⟩ : ∃ W, (w.alloc (.cells #[.int .u8 2, .int .i64 i1, .string s1, .bool b1] 43)).alloc (.cells #[.int .u8 k2, .int .i64 i2, .string s2, .bool b2] 43) = W := ⟨_, rfl⟩
        have HX : Hid (Box W w.heap.size 2 i1 s1 b1) := Lib.hid (by rw [← hW]; exact box_up (box_new w 2 i1 s1 b1) _)
        have HY : Hid (Box W (w.heap.size + 1) k2 i2 s2 b2) := Lib.hid (by rw [← hW]; have := box_new (w.alloc (.cells #[.int .u8 2, .int .i64 i1, .string s1, .bool b1] 43)) k2 i2 s2 b2; rw [size_alloc] at this; exact this)
        have HB : Hid (Below w.heap.size w W) := Lib.hid (by rw [← hW]; exact (bel_alloc _ _).alloc (by rw [size_alloc]; omega) _)
        have HW := Lib.hid hW
        clear hW
        clear hp hp1 hp2
        go_enter Tryd.func25, Tryd.ntmps25
        go_wp2_with fail
        rw [HW.out]
        have x0 := HX.out.c0
        have x1 := HX.out.c1
        have x2 := HX.out.c2
        have x3 := HX.out.c3
        have y0 := HY.out.c0
        have y1 := HY.out.c1
        have y2 := HY.out.c2
        have y3 := HY.out.c3
        replace x0 := cell_regrown x0
        replace x1 := cell_regrown x1
        replace x2 := cell_regrown x2
        replace x3 := cell_regrown x3
        replace y0 := cell_regrown y0
        replace y1 := cell_regrown y1
        replace y2 := cell_regrown y2
        replace y3 := cell_regrown y3
        have pA := fun d os => Calls.regrown_of (w := W) (d := d) (os := os) (P1.out _)
        have pB := fun d os => Calls.regrown_of (w := W) (d := d) (os := os) (P2.out _)
        refine wp_region_quiet_below (by kernel_rfl) (by kernel_rfl) ?_
        repeat (quiet_step (first | (with_reducible exact pA _ _) | (with_reducible exact pB _ _)))
        refine wpQuiet_nil ?_
        intro _ hw'
        obtain ⟨⟨dq, osq⟩, hw''⟩ := hw'
        subst hw''
        clear x0 x1 x2 x3 y0 y1 y2 y3 pA pB
        have hbr := below_regrown W dq osq
        have HX' := Lib.hid (HX.out.below hbr)
        have HY' := Lib.hid (HY.out.below hbr)
        have HB' := Lib.hid (bel_trans HB.out hbr)
        clear hbr
        generalize Go.Sort.grow (redrawn W dq) osq = W2 at *
        clear HX HB HY
        have HX := HX'
        have HB := HB'
        have HY := HY'
        clear HX' HB' HY'
        have x0 := HX.out.c0
        have x1 := HX.out.c1
        have x2 := HX.out.c2
        have x3 := HX.out.c3
        have y0 := HY.out.c0
        have y1 := HY.out.c1
        have y2 := HY.out.c2
        have y3 := HY.out.c3
        go_wp2
        go_ret
        exact ⟨by rw [HL.out]; rfl, HB.out⟩
    have g1 : (k1 == 1) = false := by simpa using h1
    have g2 : (k1 == 2) = false := by simpa using h2
    have HL : Hid (lessR k1 i1 s1 b1 k2 i2 s2 b2 = false) := Lib.hid (by unfold lessR; rw [if_pos (by rw [hp1, hp2, hp])]; rw [if_neg h1, if_neg h2])
    clear h1 h2
    obtain ⟨W, hW⟩ : ∃ W, (w.alloc (.cells #[.int .u8 k1, .int .i64 i1, .string s1, .bool b1] 43)).alloc (.cells #[.int .u8 k2, .int .i64 i2, .string s2, .bool b2] 43) = W := ⟨_, rfl⟩
    have HX : Hid (Box W w.heap.size k1 i1 s1 b1) := Lib.hid (by rw [← hW]; exact box_up (box_new w k1 i1 s1 b1) _)
    have HY : Hid (Box W (w.heap.size + 1) k2 i2 s2 b2) := Lib.hid (by rw [← hW]; have := box_new (w.alloc (.cells #[.int .u8 k1, .int .i64 i1, .string s1, .bool b1] 43)) k2 i2 s2 b2; rw [size_alloc] at this; exact this)
    have HB : Hid (Below w.heap.size w W) := Lib.hid (by rw [← hW]; exact (bel_alloc _ _).alloc (by rw [size_alloc]; omega) _)
    have HW := Lib.hid hW
    clear hW
    clear hp hp1 hp2
    go_enter Tryd.func25, Tryd.ntmps25
    go_wp2_with fail
    rw [HW.out]
    have x0 := HX.out.c0
    have x1 := HX.out.c1
    have x2 := HX.out.c2
    have x3 := HX.out.c3
    have y0 := HY.out.c0
    have y1 := HY.out.c1
    have y2 := HY.out.c2
    have y3 := HY.out.c3
    replace x0 := cell_regrown x0
    replace x1 := cell_regrown x1
    replace x2 := cell_regrown x2
    replace x3 := cell_regrown x3
    replace y0 := cell_regrown y0
    replace y1 := cell_regrown y1
    replace y2 := cell_regrown y2
    replace y3 := cell_regrown y3
    have pA := fun d os => Calls.regrown_of (w := W) (d := d) (os := os) (P1.out _)
    have pB := fun d os => Calls.regrown_of (w := W) (d := d) (os := os) (P2.out _)
    refine wp_region_quiet_below (by kernel_rfl) (by kernel_rfl) ?_
    repeat (quiet_step (first | (with_reducible exact pA _ _) | (with_reducible exact pB _ _)))
    refine wpQuiet_nil ?_
    intro _ hw'
    obtain ⟨⟨dq, osq⟩, hw''⟩ := hw'
    subst hw''
    clear x0 x1 x2 x3 y0 y1 y2 y3 pA pB
    have hbr := below_regrown W dq osq
    have HX' := Lib.hid (HX.out.below hbr)
    have HY' := Lib.hid (HY.out.below hbr)
    have HB' := Lib.hid (bel_trans HB.out hbr)
    clear hbr
    generalize Go.Sort.grow (redrawn W dq) osq = W2 at *
    clear HX HB HY
    have HX := HX'
    have HB := HB'
    have HY := HY'
    clear HX' HB' HY'
    have x0 := HX.out.c0
    have x1 := HX.out.c1
    have x2 := HX.out.c2
    have x3 := HX.out.c3
    have y0 := HY.out.c0
    have y1 := HY.out.c1
    have y2 := HY.out.c2
    have y3 := HY.out.c3
    go_wp2
    go_ret
    exact ⟨by rw [HL.out]; rfl, HB.out⟩
  · have hq : (p1 == p2) = false := by simpa using hp
    have HL : Hid (lessR k1 i1 s1 b1 k2 i2 s2 b2 = decide (p1 < p2)) := Lib.hid (by unfold lessR; rw [hp1, hp2, if_neg hp])
    obtain ⟨W, hW⟩ : ∃ W, (w.alloc (.cells #[.int .u8 k1, .int .i64 i1, .string s1, .bool b1] 43)).alloc (.cells #[.int .u8 k2, .int .i64 i2, .string s2, .bool b2] 43) = W := ⟨_, rfl⟩
    have HX : Hid (Box W w.heap.size k1 i1 s1 b1) := Lib.hid (by rw [← hW]; exact box_up (box_new w k1 i1 s1 b1) _)
    have HY : Hid (Box W (w.heap.size + 1) k2 i2 s2 b2) := Lib.hid (by rw [← hW]; have := box_new (w.alloc (.cells #[.int .u8 k1, .int .i64 i1, .string s1, .bool b1] 43)) k2 i2 s2 b2; rw [size_alloc] at this; exact this)
    have HB : Hid (Below w.heap.size w W) := Lib.hid (by rw [← hW]; exact (bel_alloc _ _).alloc (by rw [size_alloc]; omega) _)
    have HW := Lib.hid hW
    clear hW
    clear hp hp1 hp2
    go_enter Tryd.func25, Tryd.ntmps25
    go_wp2_with fail
    rw [HW.out]
    have x0 := HX.out.c0
    have x1 := HX.out.c1
    have x2 := HX.out.c2
    have x3 := HX.out.c3
    have y0 := HY.out.c0
    have y1 := HY.out.c1
    have y2 := HY.out.c2
    have y3 := HY.out.c3
    replace x0 := cell_regrown x0
    replace x1 := cell_regrown x1
    replace x2 := cell_regrown x2
    replace x3 := cell_regrown x3
    replace y0 := cell_regrown y0
    replace y1 := cell_regrown y1
    replace y2 := cell_regrown y2
    replace y3 := cell_regrown y3
    have pA := fun d os => Calls.regrown_of (w := W) (d := d) (os := os) (P1.out _)
    have pB := fun d os => Calls.regrown_of (w := W) (d := d) (os := os) (P2.out _)
    refine wp_region_quiet_below (by kernel_rfl) (by kernel_rfl) ?_
    repeat (quiet_step (first | (with_reducible exact pA _ _) | (with_reducible exact pB _ _)))
    refine wpQuiet_nil ?_
    intro _ hw'
    obtain ⟨⟨dq, osq⟩, hw''⟩ := hw'
    subst hw''
    clear x0 x1 x2 x3 y0 y1 y2 y3 pA pB
    have hbr := below_regrown W dq osq
    have HX' := Lib.hid (HX.out.below hbr)
    have HY' := Lib.hid (HY.out.below hbr)
    have HB' := Lib.hid (bel_trans HB.out hbr)
    clear hbr
    generalize Go.Sort.grow (redrawn W dq) osq = W2 at *
    clear HX HB HY
    have HX := HX'
    have HB := HB'
    have HY := HY'
    clear HX' HB' HY'
    go_wp2_with fail
    have x0 := HX.out.c0
    have x1 := HX.out.c1
    have x2 := HX.out.c2
    have x3 := HX.out.c3
    have y0 := HY.out.c0
    have y1 := HY.out.c1
    have y2 := HY.out.c2
    have y3 := HY.out.c3
    replace x0 := cell_regrown x0
    replace x1 := cell_regrown x1
    replace x2 := cell_regrown x2
    replace x3 := cell_regrown x3
    replace y0 := cell_regrown y0
    replace y1 := cell_regrown y1
    replace y2 := cell_regrown y2
    replace y3 := cell_regrown y3
    have pA := fun d os => Calls.regrown_of (w := W2) (d := d) (os := os) (P1.out _)
    have pB := fun d os => Calls.regrown_of (w := W2) (d := d) (os := os) (P2.out _)
    refine wp_region_quiet_below (by kernel_rfl) (by kernel_rfl) ?_
    repeat (quiet_step (first | (with_reducible exact pA _ _) | (with_reducible exact pB _ _)))
    refine wpQuiet_nil ?_
    intro _ hw'
    obtain ⟨⟨dq, osq⟩, hw''⟩ := hw'
    subst hw''
    clear x0 x1 x2 x3 y0 y1 y2 y3 pA pB
    have hbr := below_regrown W2 dq osq
    have HX' := Lib.hid (HX.out.below hbr)
    have HY' := Lib.hid (HY.out.below hbr)
    have HB' := Lib.hid (bel_trans HB.out hbr)
    clear hbr
    generalize Go.Sort.grow (redrawn W2 dq) osq = W3 at *
    clear HX HB HY
    have HX := HX'
    have HB := HB'
    have HY := HY'
    clear HX' HB' HY'
    go_wp2
    go_ret
    exact ⟨by rw [HL.out]; rfl, HB.out⟩
def sameR (k1 i1 : Int) (s1 : ByteArray) (b1 : Bool) (k2 i2 : Int) (s2 : ByteArray) (b2 : Bool) : Bool := !lessR k1 i1 s1 b1 k2 i2 s2 b2 && !lessR k2 i2 s2 b2 k1 i1 s1 b1
theorem sameR_any (k1 i1 : Int) (s1 : ByteArray) (b1 : Bool) (k2 i2 : Int) (s2 : ByteArray) (b2 : Bool) (w : World) :
    Calls Tryd.prog 24 #[.agg #[.int .u8 k1, .int .i64 i1, .string s1, .bool b1], .agg #[.int .u8 k2, .int .i64 i2, .string s2, .bool b2]] w fun e w' => e = .returned (.bool (sameR k1 i1 s1 b1 k2 i2 s2 b2)) ∧ Below w.heap.size w w' := by
  have l1 := fun w => lessR_any k1 i1 s1 b1 k2 i2 s2 b2 w
  have l2 := fun w => lessR_any k2 i2 s2 b2 k1 i1 s1 b1 w
  obtain ⟨c1, hc1⟩ : ∃ c, lessR k1 i1 s1 b1 k2 i2 s2 b2 = c := ⟨_, rfl⟩
  obtain ⟨c2, hc2⟩ : ∃ c, lessR k2 i2 s2 b2 k1 i1 s1 b1 = c := ⟨_, rfl⟩
  rw [hc1] at l1
  rw [hc2] at l2
  have L1 := Lib.hid l1
  have L2 := Lib.hid l2
  have HL : Hid (sameR k1 i1 s1 b1 k2 i2 s2 b2 = (!c1 && !c2)) := Lib.hid (by unfold sameR; rw [hc1, hc2])
  clear hc1 hc2 l1 l2
  cases c1
  · cases c2
    · obtain ⟨W, hW⟩ : ∃ W, (w.alloc (.cells #[.int .u8 k1, .int .i64 i1, .string s1, .bool b1] 43)).alloc (.cells #[.int .u8 k2, .int .i64 i2, .string s2, .bool b2] 43) = W := ⟨_, rfl⟩
      have HX : Hid (Box W w.heap.size k1 i1 s1 b1) := Lib.hid (by rw [← hW]; exact box_up (box_new w k1 i1 s1 b1) _)
      have HY : Hid (Box W (w.heap.size + 1) k2 i2 s2 b2) := Lib.hid (by rw [← hW]; have := box_new (w.alloc (.cells #[.int .u8 k1, .int .i64 i1, .string s1, .bool b1] 43)) k2 i2 s2 b2; rw [size_alloc] at this; exact this)
      have HB : Hid (Below w.heap.size w W) := Lib.hid (by rw [← hW]; exact (bel_alloc _ _).alloc (by rw [size_alloc]; omega) _)
      have HW := Lib.hid hW
      clear hW
      go_enter Tryd.func24, Tryd.ntmps24
      go_wp2_with fail
      rw [HW.out]
      refine (L1.out _).mono ?_
      rintro e w3 ⟨rfl, hb3⟩
      have HX3 := Lib.hid (HX.out.below hb3)
      have HY3 := Lib.hid (HY.out.below hb3)
      have HB3 := Lib.hid (bel_trans HB.out hb3)
      clear hb3 HX HY HB HW
      have x0 := HX3.out.c0
      have x1 := HX3.out.c1
      have x2 := HX3.out.c2
      have x3 := HX3.out.c3
      have y0 := HY3.out.c0
      have y1 := HY3.out.c1
      have y2 := HY3.out.c2
      have y3 := HY3.out.c3
      go_wp2_with fail
      clear x0 x1 x2 x3 y0 y1 y2 y3
      refine (L2.out _).mono ?_
      rintro e w4 ⟨rfl, hb4⟩
      have HB := Lib.hid (bel_trans HB3.out hb4)
      clear hb4
      go_wp2_with fail
      go_ret
      exact ⟨by rw [HL.out]; rfl, HB.out⟩
    · obtain ⟨W, hW⟩ : ∃ W, (w.alloc (.cells #[.int .u8 k1, .int .i64 i1, .string s1, .bool b1] 43)).alloc (.cells #[.int .u8 k2, .int .i64 i2, .string s2, .bool b2] 43) = W := ⟨_, rfl⟩
      have HX : Hid (Box W w.heap.size k1 i1 s1 b1) := Lib.hid (by rw [← hW]; exact box_up (box_new w k1 i1 s1 b1) _)
      have HY : Hid (Box W (w.heap.size + 1) k2 i2 s2 b2) := Lib.hid (by rw [← hW]; have := box_new (w.alloc (.cells #[.int .u8 k1, .int .i64 i1, .string s1, .bool b1] 43)) k2 i2 s2 b2; rw [size_alloc] at this; exact this)
      have HB : Hid (Below w.heap.size w W) := Lib.hid (by rw [← hW]; exact (bel_alloc _ _).alloc (by rw [size_alloc]; omega) _)
      have HW := Lib.hid hW
      clear hW
      go_enter Tryd.func24, Tryd.ntmps24
      go_wp2_with fail
      rw [HW.out]
      refine (L1.out _).mono ?_
      rintro e w3 ⟨rfl, hb3⟩
      have HX3 := Lib.hid (HX.out.below hb3)
      have HY3 := Lib.hid (HY.out.below hb3)
      have HB3 := Lib.hid (bel_trans HB.out hb3)
      clear hb3 HX HY HB HW
      have x0 := HX3.out.c0
      have x1 := HX3.out.c1
      have x2 := HX3.out.c2
      have x3 := HX3.out.c3
      have y0 := HY3.out.c0
      have y1 := HY3.out.c1
      have y2 := HY3.out.c2
      have y3 := HY3.out.c3
      go_wp2_with fail
      clear x0 x1 x2 x3 y0 y1 y2 y3
      refine (L2.out _).mono ?_
      rintro e w4 ⟨rfl, hb4⟩
      have HB := Lib.hid (bel_trans HB3.out hb4)
      clear hb4
      go_wp2_with fail
      go_ret
      exact ⟨by rw [HL.out]; rfl, HB.out⟩
  · obtain ⟨W, hW⟩ : ∃ W, (w.alloc (.cells #[.int .u8 k1, .int .i64 i1, .string s1, .bool b1] 43)).alloc (.cells #[.int .u8 k2, .int .i64 i2, .string s2, .bool b2] 43) = W := ⟨_, rfl⟩
    have HX : Hid (Box W w.heap.size k1 i1 s1 b1) := Lib.hid (by rw [← hW]; exact box_up (box_new w k1 i1 s1 b1) _)
    have HY : Hid (Box W (w.heap.size + 1) k2 i2 s2 b2) := Lib.hid (by rw [← hW]; have := box_new (w.alloc (.cells #[.int .u8 k1, .int .i64 i1, .string s1, .bool b1] 43)) k2 i2 s2 b2; rw [size_alloc] at this; exact this)
    have HB : Hid (Below w.heap.size w W) := Lib.hid (by rw [← hW]; exact (bel_alloc _ _).alloc (by rw [size_alloc]; omega) _)
    have HW := Lib.hid hW
    clear hW
    go_enter Tryd.func24, Tryd.ntmps24
    go_wp2_with fail
    rw [HW.out]
    refine (L1.out _).mono ?_
    rintro e w3 ⟨rfl, hb3⟩
    have HX3 := Lib.hid (HX.out.below hb3)
    have HY3 := Lib.hid (HY.out.below hb3)
    have HB3 := Lib.hid (bel_trans HB.out hb3)
    clear hb3 HX HY HB HW
    have HB := HB3
    go_wp2_with fail
    go_ret
    exact ⟨by rw [HL.out]; rfl, HB.out⟩
end
section -- XCellW
open Go.RowKit Go.Proofs.YtfabcnbblhadnaaDoor.Nums
/-- a right value, but for what its text says -/
def RightV (k i : Int) (s : ByteArray) (b : Bool) : Prop :=
  (k = 0 ∧ i = 0 ∧ s = ⟨#[]⟩ ∧ b = false) ∨ (k = 1 ∧ s = ⟨#[]⟩ ∧ b = false) ∨ (k = 2 ∧ i = 0 ∧ b = false ∧ s.size ≤ 60) ∨ (k = 3 ∧ i = 0 ∧ s = ⟨#[]⟩)
end
section -- XCellP
open Go.RowKit Go.Proofs.YtfabcnbblhadnaaDoor.Nums
open Go.Lib (compareBytes)
theorem u8_lt {a b : UInt8} : a < b ↔ a.toNat < b.toNat := UInt8.lt_iff_toNat_lt
theorem cb_range : ∀ a b : List UInt8, compareBytes a b = -1 ∨ compareBytes a b = 0 ∨ compareBytes a b = 1
  | [], [] => .inr (.inl rfl)
  | [], _ :: _ => .inl rfl
  | _ :: _, [] => .inr (.inr rfl)
  | a :: xs, b :: ys => by
    show (if a < b then (-1 : Int) else if b < a then 1 else compareBytes xs ys) = -1 ∨ (if a < b then (-1 : Int) else if b < a then 1 else compareBytes xs ys) = 0 ∨ (if a < b then (-1 : Int) else if b < a then 1 else compareBytes xs ys) = 1
    by_cases h : a < b
    · rw [if_pos h]; exact .inl rfl
    rw [if_neg h]
    by_cases g : b < a
    · rw [if_pos g]; exact .inr (.inr rfl)
    rw [if_neg g]; exact cb_range xs ys
theorem cb_flip : ∀ a b : List UInt8, compareBytes b a = - compareBytes a b
  | [], [] => rfl
  | [], _ :: _ => rfl
  | _ :: _, [] => rfl
  | a :: xs, b :: ys => by
    show (if b < a then (-1 : Int) else if a < b then 1 else compareBytes ys xs) = - (if a < b then (-1 : Int) else if b < a then 1 else compareBytes xs ys)
    by_cases h : a < b
    · have g : ¬ b < a := by rw [u8_lt] at *; omega
      rw [if_neg g, if_pos h, if_pos h]; rfl
    by_cases g : b < a
    · rw [if_pos g, if_neg h, if_pos g]
    rw [if_neg g, if_neg h, if_neg h, if_neg g]; exact cb_flip xs ys
theorem cb_zero : ∀ a b : List UInt8, compareBytes a b = 0 → a = b
  | [], [], _ => rfl
  | [], _ :: _, h => by cases h
  | _ :: _, [], h => by cases h
  | a :: xs, b :: ys, h => by
    have h' : (if a < b then (-1 : Int) else if b < a then 1 else compareBytes xs ys) = 0 := h
    by_cases e : a < b
    · rw [if_pos e] at h'; cases h'
    rw [if_neg e] at h'
    by_cases g : b < a
    · rw [if_pos g] at h'; cases h'
    rw [if_neg g] at h'
    have hab : a = b := UInt8.toNat_inj.mp (by rw [u8_lt] at *; omega)
    rw [hab, cb_zero xs ys h']
theorem cb_less : ∀ a b : List UInt8, Go.Op.bytesLess a b = decide (compareBytes a b < 0)
  | [], [] => rfl
  | [], _ :: _ => rfl
  | _ :: _, [] => rfl
  | a :: xs, b :: ys => by
    show (decide (a < b) || (a == b && Go.Op.bytesLess xs ys)) = decide ((if a < b then (-1 : Int) else if b < a then 1 else compareBytes xs ys) < 0)
    by_cases h : a < b
    · rw [if_pos h, decide_eq_true h]; rfl
    rw [if_neg h, decide_eq_false h, Bool.false_or]
    by_cases g : b < a
    · have e : (a == b) = false := by
        rw [beq_eq_false_iff_ne]; intro e; rw [e] at g h; exact h g
      rw [if_pos g, e]; rfl
    have hab : a = b := UInt8.toNat_inj.mp (by rw [u8_lt] at *; omega)
    rw [if_neg g, hab, beq_self_eq_true, Bool.true_and, cb_less xs ys]
theorem cb_trans : ∀ a b c : List UInt8, compareBytes a b < 0 → compareBytes b c < 0 → compareBytes a c < 0
  | [], [], _, h, _ => by cases h
  | [], _ :: _, [], _, g => by cases g
  | [], _ :: _, _ :: _, _, _ => by show (-1 : Int) < 0; decide
  | _ :: _, [], _, h, _ => by cases h
  | _ :: _, _ :: _, [], _, g => by cases g
  | a :: xs, b :: ys, c :: zs, h, g => by
    have h' : (if a < b then (-1 : Int) else if b < a then 1 else compareBytes xs ys) < 0 := h
    have g' : (if b < c then (-1 : Int) else if c < b then 1 else compareBytes ys zs) < 0 := g
    show (if a < c then (-1 : Int) else if c < a then 1 else compareBytes xs zs) < 0
    by_cases ac : a < c
    · rw [if_pos ac]; decide
    rw [if_neg ac]
    by_cases ab : a < b
    · by_cases bc : b < c
      · exfalso; rw [u8_lt] at *; omega
      rw [if_neg bc] at g'
      by_cases cb : c < b
      · rw [if_pos cb] at g'; cases g'
      exfalso; rw [u8_lt] at *; omega
    rw [if_neg ab] at h'
    by_cases ba : b < a
    · rw [if_pos ba] at h'; cases h'
    rw [if_neg ba] at h'
    by_cases bc : b < c
    · exfalso; rw [u8_lt] at *; omega
    rw [if_neg bc] at g'
    by_cases cb : c < b
    · rw [if_pos cb] at g'; cases g'
    rw [if_neg cb] at g'
    have ca : ¬ c < a := by rw [u8_lt] at *; omega
    rw [if_neg ca]; exact cb_trans xs ys zs h' g'
theorem ci_lt (x y : Int) : cmpI x y < 0 ↔ x < y := by
  unfold cmpI; by_cases h : x < y
  · rw [if_pos h]; exact ⟨fun _ => h, fun _ => by decide⟩
  by_cases g : y < x
  · rw [if_neg h, if_pos g]; exact ⟨fun e => (by cases e), fun e => absurd e h⟩
  rw [if_neg h, if_neg g]; exact ⟨fun e => (by cases e), fun e => absurd e h⟩
end
section -- XCellQ
open Go.RowKit Go.Proofs.YtfabcnbblhadnaaDoor.Nums
open Go.Lib (compareBytes)
theorem less_doc {k1 i1 : Int} {s1 : ByteArray} {b1 : Bool} {k2 i2 : Int} {s2 : ByteArray} {b2 : Bool} (h1 : RightV k1 i1 s1 b1) (h2 : RightV k2 i2 s2 b2) :
    lessR k1 i1 s1 b1 k2 i2 s2 b2 = decide (orderO (openV k1 i1 s1 b1) (openV k2 i2 s2 b2) < 0) := by
  rcases h1 with ⟨rfl, rfl, rfl, rfl⟩ | ⟨rfl, rfl, rfl⟩ | ⟨rfl, rfl, rfl, g1⟩ | ⟨rfl, rfl, rfl⟩ <;> rcases h2 with ⟨rfl, rfl, rfl, rfl⟩ | ⟨rfl, rfl, rfl⟩ | ⟨rfl, rfl, rfl, g2⟩ | ⟨rfl, rfl, rfl⟩
  all_goals first
    | rfl
    | (cases b1 <;> cases b2 <;> rfl)
    | (cases b1 <;> rfl)
    | (cases b2 <;> rfl)
    | (show decide (i1 < i2) = decide (cmpI i1 i2 < 0); exact decide_eq_decide.mpr (ci_lt _ _).symm)
    | (show Go.Op.bytesLess s1.toList s2.toList = decide (compareBytes s1.data.toList s2.data.toList < 0); rw [ByteArray.toList_eq, ByteArray.toList_eq]; exact cb_less _ _)
end
end Go.Proofs.YtfabcnbblhadnaaDoor.Cell
