/- lapidaryref05's Right, Same, Few. -/
import Derived.Test.YtbpgjpopmohbmaaPageW
namespace Go.Proofs.Ytbpgjpopmohbmaa.Mem
open Go.RowKit Go.Proofs.Ytbpgjpopmohbmaa.Nums
set_option linter.unusedVariables false
set_option linter.unusedSimpArgs false
set_option maxRecDepth 100000
set_option maxHeartbeats 1000000
theorem rright_any (r a b : Nat) (p s : Int) (A : Option Addr) (n c : Nat) (w : World) :
    Calls Try.prog 39 #[.agg #[.int .u64 r, .int .u64 a, .int .u64 b, .int .i64 p, .int .i64 s, .slice A n c]] w fun e w' => e = .returned (.bool (tuOk r a b p s n)) ∧ Below w.heap.size w w' := by
  have H0 : Hid (tuOk r a b p s n = (decide (r ≤ 1099511627776) && decide (a ≤ 1099511627776) && decide (b ≤ 1099511627776) && nxOk p s && decide (n ≤ 200))) := Lib.hid rfl
  by_cases h1 : r ≤ 1099511627776
  rotate_left
  · rw [decide_eq_false h1] at H0
    have h1' : decide ((r : Int) ≤ 1099511627776) = false := decide_eq_false (by omega)
    go_enter Try.func39, Try.ntmps39
    go_wp2_with fail
    go_ret
    exact ⟨by rw [H0.out]; rfl, bel_alloc _ _⟩
  have h1' : decide ((r : Int) ≤ 1099511627776) = true := decide_eq_true (by omega)
  rw [decide_eq_true h1] at H0
  by_cases h2 : a ≤ 1099511627776
  rotate_left
  · rw [decide_eq_false h2] at H0
    have h2' : decide ((a : Int) ≤ 1099511627776) = false := decide_eq_false (by omega)
    go_enter Try.func39, Try.ntmps39
    go_wp2_with fail
    go_ret
    exact ⟨by rw [H0.out]; rfl, bel_alloc _ _⟩
  have h2' : decide ((a : Int) ≤ 1099511627776) = true := decide_eq_true (by omega)
  rw [decide_eq_true h2] at H0
  by_cases h3 : b ≤ 1099511627776
  rotate_left
  · rw [decide_eq_false h3] at H0
    have h3' : decide ((b : Int) ≤ 1099511627776) = false := decide_eq_false (by omega)
    go_enter Try.func39, Try.ntmps39
    go_wp2_with fail
    go_ret
    exact ⟨by rw [H0.out]; rfl, bel_alloc _ _⟩
  have h3' : decide ((b : Int) ≤ 1099511627776) = true := decide_eq_true (by omega)
  rw [decide_eq_true h3] at H0
  have hb4 := at_new w #[.int .u64 r, .int .u64 a, .int .u64 b, .int .i64 p, .int .i64 s, .slice A n c] 33
  have HD : Hid ((w.alloc (.cells #[.int .u64 r, .int .u64 a, .int .u64 b, .int .i64 p, .int .i64 s, .slice A n c] 33)).cell? ⟨w.heap.size, 5, none⟩ = some (.slice A n c)) := Lib.hid (by have h := hb4.2 5 (.slice A n c) rfl; rwa [add_flat] at h)
  clear hb4
  have CX := Lib.hid (far_any p s (w.alloc (.cells #[.int .u64 r, .int .u64 a, .int .u64 b, .int .i64 p, .int .i64 s, .slice A n c] 33)))
  rw [far_not] at CX
  obtain ⟨q, hq⟩ : ∃ q, nxOk p s = q := ⟨_, rfl⟩
  rw [hq] at H0 CX
  clear hq
  obtain ⟨q5, hq5⟩ : ∃ q5, decide (n ≤ 200) = q5 := ⟨_, rfl⟩
  have h5 : decide ((n : Int) ≤ 200) = q5 := by rw [← hq5]; congr 1; simp [Int.ofNat_le]; omega
  rw [hq5] at H0
  clear hq5
  cases q <;> cases q5
  all_goals (
    go_enter Try.func39, Try.ntmps39
    go_wp2_with fail
    refine CX.out.mono ?_
    rintro e w2 ⟨rfl, hb2⟩
    have HB2 := Lib.hid (bel_trans (bel_alloc w (.cells #[.int .u64 r, .int .u64 a, .int .u64 b, .int .i64 p, .int .i64 s, .slice A n c] 33)) hb2)
    have hd := (hb2.cell (p := ⟨w.heap.size, 5, none⟩) (by rw [size_alloc]; show w.heap.size < _; omega)).trans HD.out
    clear hb2
    simp only [Bool.not_true, Bool.not_false]
    go_wp2_with fail
    go_ret
    exact ⟨by rw [H0.out]; rfl, HB2.out⟩)
end Go.Proofs.Ytbpgjpopmohbmaa.Mem
