/- page.right. -/
import Derived.Test.YtbpgjpopmohbmaaPageN
namespace Go.Proofs.Ytbpgjpopmohbmaa.Mem
open Go.RowKit Go.Proofs.Ytbpgjpopmohbmaa.Nums
set_option linter.unusedVariables false
set_option linter.unusedSimpArgs false
set_option maxRecDepth 100000
theorem rightNumber_yes (n : Nat) (w : World) (h : n ≤ 1099511627776) : Calls Try.prog 84 #[.int .u64 n] w fun e w' => e = .returned (.bool true) ∧ w = w' := by
  have hi : (n : Int) ≤ 1099511627776 := by omega
  go_enter Try.func84, Try.ntmps84
  go_wp2_with fail
  go_ret
  exact ⟨rfl, rfl⟩
theorem rightNumber_no (n : Nat) (w : World) (h : ¬ n ≤ 1099511627776) : Calls Try.prog 84 #[.int .u64 n] w fun e w' => e = .returned (.bool false) ∧ w = w' := by
  have hi : ¬ (n : Int) ≤ 1099511627776 := by omega
  go_enter Try.func84, Try.ntmps84
  go_wp2_with fail
  go_ret
  exact ⟨rfl, rfl⟩
theorem rightNumber_any (n : Nat) (w : World) : Calls Try.prog 84 #[.int .u64 n] w fun e w' => e = .returned (.bool (decide (n ≤ 1099511627776))) ∧ w = w' := by
  by_cases h : n ≤ 1099511627776
  · rw [decide_eq_true h]; exact rightNumber_yes n w h
  · rw [decide_eq_false h]; exact rightNumber_no n w h
/-- may a Next be so? -/
def nxOk (p s : Int) : Bool := (p == -1 && s == -1) || (decide (0 ≤ p) && decide (p ≤ 65535) && decide (0 ≤ s) && decide (s ≤ 65534))
theorem tid_eql (p s : Int) (w : World) : (binOp .eql 30 (.agg #[.int .i64 p, .int .i64 s]) (.agg #[.int .i64 (-1), .int .i64 (-1)])).run Try.prog w = .ok (.bool (p == -1 && s == -1)) w := by
  simp [go_sem]
  by_cases hp : p = -1 <;> by_cases hs : s = -1 <;> simp [hp, hs]
theorem rightNext_any (p s : Int) (w : World) : Calls Try.prog 85 #[.agg #[.int .i64 p, .int .i64 s]] w fun e w' => e = .returned (.bool (nxOk p s)) ∧ Below w.heap.size w w' := by
  have hE := fun w => tid_eql p s w
  have H0 : Hid (nxOk p s = ((p == -1 && s == -1) || (decide (0 ≤ p) && decide (p ≤ 65535) && decide (0 ≤ s) && decide (s ≤ 65534)))) := Lib.hid rfl
  obtain ⟨q, hq⟩ : ∃ q, (p == -1 && s == -1) = q := ⟨_, rfl⟩
  simp only [hq] at hE
  rw [hq] at H0
  cases q
  rotate_left
  · go_enter Try.func85, Try.ntmps85
    go_wp2_with fail
    go_ret
    exact ⟨by rw [H0.out]; rfl, bel_alloc _ _⟩
  by_cases h1 : 0 ≤ p
  rotate_left
  · rw [decide_eq_false h1] at H0
    go_enter Try.func85, Try.ntmps85
    go_wp2_with fail
    go_ret
    exact ⟨by rw [H0.out]; rfl, bel_alloc _ _⟩
  by_cases h2 : p ≤ 65535
  rotate_left
  · rw [decide_eq_false h2, decide_eq_true h1] at H0
    go_enter Try.func85, Try.ntmps85
    go_wp2_with fail
    go_ret
    exact ⟨by rw [H0.out]; rfl, bel_alloc _ _⟩
  by_cases h3 : 0 ≤ s
  rotate_left
  · rw [decide_eq_false h3, decide_eq_true h1, decide_eq_true h2] at H0
    go_enter Try.func85, Try.ntmps85
    go_wp2_with fail
    go_ret
    exact ⟨by rw [H0.out]; rfl, bel_alloc _ _⟩
  by_cases h4 : s ≤ 65534
  · rw [decide_eq_true h4, decide_eq_true h1, decide_eq_true h2, decide_eq_true h3] at H0
    go_enter Try.func85, Try.ntmps85
    go_wp2_with fail
    go_ret
    exact ⟨by rw [H0.out]; rfl, bel_alloc _ _⟩
  · rw [decide_eq_false h4, decide_eq_true h1, decide_eq_true h2, decide_eq_true h3] at H0
    go_enter Try.func85, Try.ntmps85
    go_wp2_with fail
    go_ret
    exact ⟨by rw [H0.out]; rfl, bel_alloc _ _⟩
/-- may a version be so? -/
def tuOk (r a b : Nat) (p s : Int) (n : Nat) : Bool := decide (r ≤ 1099511627776) && decide (a ≤ 1099511627776) && decide (b ≤ 1099511627776) && nxOk p s && decide (n ≤ 200)
theorem right_any (r a b : Nat) (p s : Int) (A : Option Addr) (n c : Nat) (w : World) :
    Calls Try.prog 77 #[.agg #[.int .u64 r, .int .u64 a, .int .u64 b, .int .i64 p, .int .i64 s, .slice A n c]] w fun e w' => e = .returned (.bool (tuOk r a b p s n)) ∧ Below w.heap.size w w' := by
  have H0 : Hid (tuOk r a b p s n = (decide (r ≤ 1099511627776) && decide (a ≤ 1099511627776) && decide (b ≤ 1099511627776) && nxOk p s && decide (n ≤ 200))) := Lib.hid rfl
  by_cases h1 : r ≤ 1099511627776
  rotate_left
  · rw [decide_eq_false h1] at H0
    go_enter Try.func77, Try.ntmps77
    go_wp2_with fail
    refine (rightNumber_no r _ h1).mono ?_
    rintro e w1 ⟨rfl, rfl⟩
    go_wp2_with fail
    go_ret
    exact ⟨by rw [H0.out]; rfl, bel_alloc _ _⟩
  rw [decide_eq_true h1] at H0
  by_cases h2 : a ≤ 1099511627776
  rotate_left
  · rw [decide_eq_false h2] at H0
    go_enter Try.func77, Try.ntmps77
    go_wp2_with fail
    refine (rightNumber_yes r _ h1).mono ?_
    rintro e w1 ⟨rfl, rfl⟩
    go_wp2_with fail
    refine (rightNumber_no a _ h2).mono ?_
    rintro e w1 ⟨rfl, rfl⟩
    go_wp2_with fail
    go_ret
    exact ⟨by rw [H0.out]; rfl, bel_alloc _ _⟩
  rw [decide_eq_true h2] at H0
  by_cases h3 : b ≤ 1099511627776
  rotate_left
  · rw [decide_eq_false h3] at H0
    go_enter Try.func77, Try.ntmps77
    go_wp2_with fail
    refine (rightNumber_yes r _ h1).mono ?_
    rintro e w1 ⟨rfl, rfl⟩
    go_wp2_with fail
    refine (rightNumber_yes a _ h2).mono ?_
    rintro e w1 ⟨rfl, rfl⟩
    go_wp2_with fail
    refine (rightNumber_no b _ h3).mono ?_
    rintro e w1 ⟨rfl, rfl⟩
    go_wp2_with fail
    go_ret
    exact ⟨by rw [H0.out]; rfl, bel_alloc _ _⟩
  rw [decide_eq_true h3] at H0
  have HB1 : Hid (Below w.heap.size w (w.alloc (.cells #[.int .u64 r, .int .u64 a, .int .u64 b, .int .i64 p, .int .i64 s, .slice A n c] 33))) := Lib.hid (bel_alloc _ _)
  have hb4 := at_new w #[.int .u64 r, .int .u64 a, .int .u64 b, .int .i64 p, .int .i64 s, .slice A n c] 33
  have HD : Hid ((w.alloc (.cells #[.int .u64 r, .int .u64 a, .int .u64 b, .int .i64 p, .int .i64 s, .slice A n c] 33)).cell? ⟨w.heap.size, 5, none⟩ = some (.slice A n c)) := Lib.hid (by have h := hb4.2 5 (.slice A n c) rfl; rwa [add_flat] at h)
  clear hb4
  obtain ⟨q, hq⟩ : ∃ q, nxOk p s = q := ⟨_, rfl⟩
  have CX := Lib.hid (rightNext_any p s (w.alloc (.cells #[.int .u64 r, .int .u64 a, .int .u64 b, .int .i64 p, .int .i64 s, .slice A n c] 33)))
  rw [hq] at H0 CX
  clear hq
  cases q
  · go_enter Try.func77, Try.ntmps77
    go_wp2_with fail
    refine (rightNumber_yes r _ h1).mono ?_
    rintro e w1 ⟨rfl, rfl⟩
    go_wp2_with fail
    refine (rightNumber_yes a _ h2).mono ?_
    rintro e w1 ⟨rfl, rfl⟩
    go_wp2_with fail
    refine (rightNumber_yes b _ h3).mono ?_
    rintro e w1 ⟨rfl, rfl⟩
    go_wp2_with fail
    refine CX.out.mono ?_
    rintro e w2 ⟨rfl, hb2⟩
    have HB2 := Lib.hid (bel_trans HB1.out hb2)
    clear hb2
    go_wp2_with fail
    go_ret
    exact ⟨by rw [H0.out]; rfl, HB2.out⟩
  · by_cases h5 : n ≤ 200
    · rw [decide_eq_true h5] at H0
      have h5' : (n : Int) ≤ 200 := by omega
      go_enter Try.func77, Try.ntmps77
      go_wp2_with fail
      refine (rightNumber_yes r _ h1).mono ?_
      rintro e w1 ⟨rfl, rfl⟩
      go_wp2_with fail
      refine (rightNumber_yes a _ h2).mono ?_
      rintro e w1 ⟨rfl, rfl⟩
      go_wp2_with fail
      refine (rightNumber_yes b _ h3).mono ?_
      rintro e w1 ⟨rfl, rfl⟩
      go_wp2_with fail
      refine CX.out.mono ?_
      rintro e w2 ⟨rfl, hb2⟩
      have HB2 := Lib.hid (bel_trans HB1.out hb2)
      have hd := (hb2.cell (p := ⟨w.heap.size, 5, none⟩) (by rw [size_alloc]; show w.heap.size < _; omega)).trans HD.out
      clear hb2
      go_wp2_with fail
      go_ret
      exact ⟨by rw [H0.out]; rfl, HB2.out⟩
    · rw [decide_eq_false h5] at H0
      have h5' : ¬ (n : Int) ≤ 200 := by omega
      have h5d : decide ((n : Int) ≤ 200) = false := decide_eq_false h5'
      go_enter Try.func77, Try.ntmps77
      go_wp2_with fail
      refine (rightNumber_yes r _ h1).mono ?_
      rintro e w1 ⟨rfl, rfl⟩
      go_wp2_with fail
      refine (rightNumber_yes a _ h2).mono ?_
      rintro e w1 ⟨rfl, rfl⟩
      go_wp2_with fail
      refine (rightNumber_yes b _ h3).mono ?_
      rintro e w1 ⟨rfl, rfl⟩
      go_wp2_with fail
      refine CX.out.mono ?_
      rintro e w2 ⟨rfl, hb2⟩
      have HB2 := Lib.hid (bel_trans HB1.out hb2)
      have hd := (hb2.cell (p := ⟨w.heap.size, 5, none⟩) (by rw [size_alloc]; show w.heap.size < _; omega)).trans HD.out
      clear hb2
      go_wp2_with fail
      go_ret
      exact ⟨by rw [H0.out]; first | rfl | (simp only [h5d]; rfl) | (simp [h5d]), HB2.out⟩
end Go.Proofs.Ytbpgjpopmohbmaa.Mem
