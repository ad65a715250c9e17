/- cell.Right of every value, however long its text. -/
import Derived.Test.YtfabcnbblhadnaaDoorCellJ
namespace Go.Proofs.YtfabcnbblhadnaaDoor.Cell
open Go.RowKit Go.Proofs.YtfabcnbblhadnaaDoor.Nums
set_option linter.unusedVariables false
set_option maxRecDepth 100000
attribute [local go_sem] guard_nil ta_nb ta_bb ta_ib ta_sb ta_ob ta_ni ta_bi ta_ii ta_si ta_oi ta_ns ta_bs ta_is ta_ss ta_os
attribute [local irreducible] wpQuiet

theorem rightText_far (s : ByteArray) (h : 60 < s.size) (hm : s.size ≤ maxLen) (w : World) :
    Calls Tryd.prog 53 #[.string s] w fun e w' => e = .returned (.bool (decide (s.size ≤ 60) && good s.data.toList)) ∧ Below w.heap.size w w' := by
  have hz' : ¬ (s.size : Int) ≤ 60 := by omega
  have HR : Hid ((decide (s.size ≤ 60) && good s.data.toList) = false) := Lib.hid (by rw [decide_eq_false (by omega), Bool.false_and])
  clear h
  unfold maxLen at hm
  go_enter Tryd.func53, Tryd.ntmps53
  go_wp2_with fail
  go_ret
  exact ⟨by first | rfl | (rw [HR.out]; rfl), Below.refl _ _⟩
theorem cright_2far (i : Int) (s : ByteArray) (b : Bool) (hs : 60 < s.size) (hm : s.size ≤ maxLen) (w : World) (hU : U8 w) :
    Calls Tryd.prog 38 #[.agg #[.int .u8 2, .int .i64 i, .string s, .bool b]] w fun e w' => e = .returned (.bool (rightB 2 i s b)) ∧ Below w.heap.size w w' := by
  obtain ⟨W, hW⟩ : ∃ W, w.alloc (.cells #[.int .u8 2, .int .i64 i, .string s, .bool b] 43) = W := ⟨_, rfl⟩
  have HX : Hid (Box W w.heap.size 2 i s b) := Lib.hid (by rw [← hW]; exact box_new w 2 i s b)
  have HB : Hid (Below w.heap.size w W) := Lib.hid (by rw [← hW]; exact bel_alloc _ _)
  have HT := Lib.hid (hU.below HB.out)
  have HW := Lib.hid hW
  clear hW hU
  have x0 := HX.out.c0
  have x1 := HX.out.c1
  have x2 := HX.out.c2
  have x3 := HX.out.c3
  go_enter Tryd.func38, Tryd.ntmps38
  go_wp2_with fail
  rw [HW.out]
  refine (open_str _ _ _ _).mono ?_
  rintro e w3 ⟨rfl, hb3⟩
  have HX3 := Lib.hid (HX.out.below hb3)
  have HB3 := Lib.hid (bel_trans HB.out hb3)
  have HT3 := Lib.hid (HT.out.below hb3)
  clear hb3 HB HT HW HX x0 x1 x2 x3
  have x0 := HX3.out.c0
  have x1 := HX3.out.c1
  have x2 := HX3.out.c2
  have x3 := HX3.out.c3
  go_wp2_with fail
  all_goals first
    | (go_ret; exact ⟨by simp [rightB, *], HB3.out⟩)
    | (refine (rightText_far s hs hm _).mono ?_
       rintro e w4 ⟨rfl, hb4⟩
       have HB4 := Lib.hid (bel_trans HB3.out hb4)
       clear hb4
       go_wp2_with fail
       go_ret
       exact ⟨by simp [rightB, *], HB4.out⟩)

theorem cright_all (k i : Int) (s : ByteArray) (b : Bool) (hm : s.size ≤ maxLen) (w : World) (hU : U8 w) :
    Calls Tryd.prog 38 #[.agg #[.int .u8 k, .int .i64 i, .string s, .bool b]] w fun e w' => e = .returned (.bool (rightB k i s b)) ∧ Below w.heap.size w w' := by
  by_cases hs : s.size ≤ 100
  · exact cright_any k i s b hs w hU
  by_cases h0 : k = 0
  · subst h0; exact cright_0 i s b w hU
  by_cases h1 : k = 1
  · subst h1; exact cright_1 i s b w hU
  by_cases h2 : k = 2
  · subst h2; exact cright_2far i s b (by omega) hm w hU
  by_cases h3 : k = 3
  · subst h3; exact cright_3 i s b w hU
  exact cright_odd k i s b (by simpa using h0) (by simpa using h1) (by simpa using h2) (by simpa using h3) w hU
end Go.Proofs.YtfabcnbblhadnaaDoor.Cell
