/- Page.Insert, Page.Stamp, Page.Get, Page.Free where nothing is put, stamped, told, freed. -/
import Derived.Test.YtbpgjpopmohbmaaPageI
namespace Go.Proofs.Ytbpgjpopmohbmaa.Mem
open Go.RowKit Go.Proofs.Ytbpgjpopmohbmaa.Nums
set_option linter.unusedVariables false
set_option linter.unusedSimpArgs false
set_option maxRecDepth 100000
set_option maxHeartbeats 1000000
attribute [local go_sem] nil_nil some_nil
theorem insert_nil (r a b n c : Nat) (p s : Int) (A : Option Addr) (w : World) :
    Calls Try.prog 34 #[.pointer none, .agg #[.int .u64 r, .int .u64 a, .int .u64 b, .int .i64 p, .int .i64 s, .slice A n c]] w fun e w' => e = .returned (.tuple #[.int .i64 0, .int .i64 15]) ∧ Below w.heap.size w w' := by
  go_enter Try.func34, Try.ntmps34
  go_wp2_with fail
  go_ret2
  exact ⟨rfl, bel_alloc _ _⟩
theorem insert_form (P r a b n c : Nat) (p s : Int) (A : Option Addr) (w : World) (h : tuOk r a b p s n = false) :
    Calls Try.prog 34 #[.pointer (some ⟨P, 0, none⟩), .agg #[.int .u64 r, .int .u64 a, .int .u64 b, .int .i64 p, .int .i64 s, .slice A n c]] w fun e w' => e = .returned (.tuple #[.int .i64 0, .int .i64 3]) ∧ Below w.heap.size w w' := by
  have CR := Lib.hid (right_any r a b p s A n c (w.alloc (.cells #[.int .u64 r, .int .u64 a, .int .u64 b, .int .i64 p, .int .i64 s, .slice A n c] 33)))
  rw [h] at CR
  go_enter Try.func34, Try.ntmps34
  go_wp2_with fail
  refine CR.out.mono ?_
  rintro e w2 ⟨rfl, hb2⟩
  have HB2 := Lib.hid (bel_trans (bel_alloc _ _) hb2)
  clear hb2
  go_wp2_with fail
  go_ret2
  exact ⟨rfl, HB2.out⟩
theorem stamp_nil (i : Int) (U : Nat) (p s : Int) (w : World) : Calls Try.prog 38 #[.pointer none, .int .i64 i, .int .u64 U, .agg #[.int .i64 p, .int .i64 s]] w fun e w' => e = .returned (.int .i64 15) ∧ Below w.heap.size w w' := by
  go_enter Try.func38, Try.ntmps38
  go_wp2_with fail
  go_ret
  exact ⟨rfl, bel_alloc _ _⟩
/-- may no version lie there? -/
def farB (p s : Int) : Bool := if p = -1 ∧ s = -1 then false else decide (p < 0) || decide (65535 < p) || decide (s < 0) || decide (65534 < s)
theorem far_not (p s : Int) : farB p s = !nxOk p s := by
  unfold farB nxOk
  by_cases h1 : p = -1 ∧ s = -1
  · rw [if_pos h1, h1.1, h1.2]; rfl
  · rw [if_neg h1]
    have h2 : (p == -1 && s == -1) = false := by
      rw [Bool.eq_false_iff]
      intro h
      rw [Bool.and_eq_true, beq_iff_eq, beq_iff_eq] at h
      exact h1 h
    rw [h2, Bool.false_or, Bool.eq_iff_iff]
    simp only [Bool.or_eq_true, Bool.not_eq_true', Bool.and_eq_false_iff, decide_eq_true_eq, decide_eq_false_iff_not]
    omega
end Go.Proofs.Ytbpgjpopmohbmaa.Mem
