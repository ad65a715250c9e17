/- Picked by program out of XCellZ. -/
import Derived.Test.YtfabcnbblhadnaaDoorCellH
import Derived.Test.YtfabcnbblhadnaaDoorShelf196
import Derived.Lib.LaidU8T
import Derived.PinnedBridge
import Derived.Test.YtfabcnbblhadnaaDoorCellH
namespace Go.Proofs.YtfabcnbblhadnaaDoor.Cell
open Go.RowKit Go.Proofs.YtfabcnbblhadnaaDoor.Nums
open Go.Lib (validD)
set_option linter.unusedVariables false
set_option maxRecDepth 100000
def U8 (w : World) : Prop := Go.Lib.Utf8Tabs (Tryd.lays196_ren.g 3) (Tryd.lays196_ren.g 4) w
theorem U8.below {w w' : World} (h : U8 w) (hb : Below w.heap.size w w') : U8 w' := Go.Proofs.Utf8Tabs_below h hb
theorem u8_extra : Go.Proofs.U8Extra Tryd.prog Tryd.lays196_ren := ⟨by kernel_rfl, by kernel_rfl, by kernel_rfl, by kernel_rfl, by kernel_rfl, by kernel_rfl, by kernel_rfl⟩
theorem u8_of {w : World} (h3 : Go.Lib.VarReads Tryd.prog w "unicode/utf8.first" Go.Lib.firstData) (h4 : Go.Lib.VarReads Tryd.prog w "unicode/utf8.acceptRanges" Go.Lib.acceptData) : U8 w :=
  Go.Proofs.utf8Tabs_of_readsT (Go.Proofs.U8Types.of196 Tryd.lays196) u8_extra h3 h4
theorem valid_str (s : ByteArray) (hs : s.size ≤ 100) (w : World) (hU : U8 w) :
    Calls Tryd.prog 63 #[.string s] w fun e w' => e = .returned (.bool (validD s.data.toList)) ∧ Below w.heap.size w w' :=
  Go.Proofs.Any.utf8_ValidString Tryd.lays196 s w (by omega) hU
theorem noz_index : ∀ l : List UInt8, decide (Go.Lib.indexByte l 0 < 0) = noz l
  | [] => rfl
  | c :: l => by
    show decide ((if (c == 0) = true then (0 : Int) else if Go.Lib.indexByte l 0 == -1 then -1 else Go.Lib.indexByte l 0 + 1) < 0) = ((c != 0) && noz l)
    rw [← noz_index l]
    have hge := Go.Lib.indexByte_ge l 0
    generalize Go.Lib.indexByte l 0 = x at *
    by_cases h : c = 0
    · subst h; rfl
    · have e1 : (c == 0) = false := by rw [beq_eq_false_iff_ne]; exact h
      have e2 : (c != 0) = true := by rw [bne, e1]; rfl
      rw [e1, e2, if_neg (by decide), Bool.true_and]
      by_cases hx : x = -1
      · rw [hx]; rfl
      · have e3 : (x == -1) = false := by rw [beq_eq_false_iff_ne]; exact hx
        rw [e3, if_neg (by decide), decide_eq_false (by omega), decide_eq_false (by omega)]
theorem rightText_any (s : ByteArray) (hs : s.size ≤ 100) (w : World) (hU : U8 w) :
    Calls Tryd.prog 53 #[.string s] w fun e w' => e = .returned (.bool (decide (s.size ≤ 60) && good s.data.toList)) ∧ Below w.heap.size w w' := by
  have hI := Go.Lib.indexByte_ge s.data.toList 0
  have D := Lib.hid (valid_str s hs w hU)
  have hN := noz_index s.data.toList
  have E : ∀ w, Calls Tryd.prog 64 #[.string s, .int .u8 0] w fun e w' => e = .returned (.int .i64 (Go.Lib.indexByte s.data.toList 0)) ∧ w' = w := fun w => Tryd.strings_IndexByte s 0 w
  have HE := Lib.hid E
  have HG : Hid (good s.data.toList = (validD s.data.toList && noz s.data.toList)) := Lib.hid rfl
  clear hU E
  by_cases hz : s.size ≤ 60
  · have hz' : (s.size : Int) ≤ 60 := by omega
    cases hv : validD s.data.toList
    · have HR : Hid ((decide (s.size ≤ 60) && good s.data.toList) = false) := Lib.hid (by rw [HG.out, hv, Bool.false_and, Bool.and_false])
      rw [hv] at D
      go_enter Tryd.func53, Tryd.ntmps53
      go_wp2_with fail
      refine D.out.mono ?_
      rintro e w1 ⟨rfl, hb⟩
      have HB := Lib.hid hb
      clear hb
      go_wp2_with fail
      go_ret
      exact ⟨by rw [HR.out]; rfl, HB.out⟩
    · have HR : Hid ((decide (s.size ≤ 60) && good s.data.toList) = decide (Go.Lib.indexByte s.data.toList 0 < 0)) := Lib.hid (by rw [HG.out, hv, Bool.true_and, decide_eq_true hz, Bool.true_and, hN])
      rw [hv] at D
      clear hN
      generalize Go.Lib.indexByte s.data.toList 0 = x at *
      go_enter Tryd.func53, Tryd.ntmps53
      go_wp2_with fail
      refine D.out.mono ?_
      rintro e w1 ⟨rfl, hb⟩
      have HB := Lib.hid hb
      clear hb
      go_wp2_with fail
      refine (HE.out _).mono ?_
      rintro e w2 ⟨rfl, rfl⟩
      go_wp2_with fail
      go_ret
      exact ⟨by rw [HR.out]; rfl, HB.out⟩
  · have hz' : ¬ (s.size : Int) ≤ 60 := by omega
    have HR : Hid ((decide (s.size ≤ 60) && good s.data.toList) = false) := Lib.hid (by rw [decide_eq_false hz, Bool.false_and])
    go_enter Tryd.func53, Tryd.ntmps53
    go_wp2_with fail
    go_ret
    exact ⟨by first | rfl | (rw [HR.out]; rfl), Below.refl _ _⟩
end Go.Proofs.YtfabcnbblhadnaaDoor.Cell
