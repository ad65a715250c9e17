/- The laws of layer 1 but CalcReads: their walks. -/
import Derived.Test.YtdfgpaoehikdpaaRead
namespace Go.Proofs.Ytdfgpaoehikdpaa.Calc
open Go.RowKit Go.Proofs.Ytdfgpaoehikdpaa.Nums
set_option linter.unusedVariables false

theorem awake_any (w : World) :
    Calls Try.prog 8 #[] w fun e w' => e = .returned (.bool true) ∧ Below w.heap.size w w' := by
  have c1 := fun w => add_out 9223372036854775807 1 (by decide) (by decide) (by decide) w
  have c2 := fun w => div_any (-7) 2 (by decide) (by decide) w
  have c3 := fun w => mod_any (-7) 2 (by decide) (by decide) w
  rw [show divN (-7) 2 = -3 by decide, show divE (-7) 2 = 0 by decide] at c2
  rw [show modN (-7) 2 = -1 by decide, show modE 2 = 0 by decide] at c3
  have H1 := Lib.hid c1
  have H2 := Lib.hid c2
  have H3 := Lib.hid c3
  clear c1 c2 c3
  go_enter Try.func8, Try.ntmps8
  go_wp2_with (first | (go_at_call 9; refine (H1.out _).mono ?_; rintro e w' ⟨rfl, rfl⟩) | (go_at_call 17; refine (H2.out _).mono ?_; rintro e w' ⟨rfl, rfl⟩) | (go_at_call 19; refine (H3.out _).mono ?_; rintro e w' ⟨rfl, rfl⟩))
  refine (read_any _ (by decide) _).mono ?_
  rintro e w' ⟨rfl, hb⟩
  go_wp2_with fail
  go_ret
  exact ⟨rfl, hb⟩

theorem CalcSums_walk (a : Int) (b : Int) (ha : In64 a) (hb : In64 b) (w : World) :
    Calls Try.prog 3 #[.int .i64 a, .int .i64 b] w fun e w' => e = .returned (.bool true) ∧ Below w.heap.size w w' := by
  have hb' := hb
  clear hb
  go_enter Try.func3, Try.ntmps3
  go_wp2_with (first | (go_at_call 8; refine (awake_any _).mono ?_; rintro e w' ⟨rfl, hb⟩) | (go_at_call 9; refine (add_any _ _ ha hb' _).mono ?_; rintro e w' ⟨rfl, rfl⟩) | (go_at_call 10; refine (ref_add _ _ ha hb' _).mono ?_; rintro e w' ⟨rfl, rfl⟩) | (go_at_call 11; refine (sub_any _ _ ha hb' _).mono ?_; rintro e w' ⟨rfl, rfl⟩) | (go_at_call 12; refine (ref_sub _ _ ha hb' _).mono ?_; rintro e w' ⟨rfl, rfl⟩) | (go_at_call 13; refine (neg_any _ ha _).mono ?_; rintro e w' ⟨rfl, rfl⟩) | (go_at_call 14; refine (ref_neg _ ha _).mono ?_; rintro e w' ⟨rfl, rfl⟩))
  go_ret
  exact ⟨rfl, hb⟩

theorem CalcProducts_walk (a : Int) (b : Int) (ha : In64 a) (hb : In64 b) (w : World) :
    Calls Try.prog 4 #[.int .i64 a, .int .i64 b] w fun e w' => e = .returned (.bool true) ∧ Below w.heap.size w w' := by
  have hb' := hb
  clear hb
  go_enter Try.func4, Try.ntmps4
  go_wp2_with (first | (go_at_call 8; refine (awake_any _).mono ?_; rintro e w' ⟨rfl, hb⟩) | (go_at_call 15; refine (mul_any _ _ ha hb' _).mono ?_; rintro e w' ⟨rfl, rfl⟩) | (go_at_call 16; refine (ref_mul _ _ ha hb' _).mono ?_; rintro e w' ⟨rfl, rfl⟩) | (go_at_call 17; refine (div_any _ _ ha hb' _).mono ?_; rintro e w' ⟨rfl, rfl⟩) | (go_at_call 18; refine (ref_div _ _ ha hb' _).mono ?_; rintro e w' ⟨rfl, rfl⟩) | (go_at_call 19; refine (mod_any _ _ ha hb' _).mono ?_; rintro e w' ⟨rfl, rfl⟩) | (go_at_call 20; refine (ref_mod _ _ ha hb' _).mono ?_; rintro e w' ⟨rfl, rfl⟩))
  go_ret
  exact ⟨rfl, hb⟩

theorem CalcOrders_walk (a : Int) (b : Int) (c : Int) (ha : In64 a) (hb : In64 b) (hc : In64 c) (w : World) :
    Calls Try.prog 6 #[.int .i64 a, .int .i64 b, .int .i64 c] w fun e w' => e = .returned (.bool true) ∧ Below w.heap.size w w' := by
  have hb' := hb
  clear hb
  have e1 : ((a + c == b + c) == (a == b)) = true := by
    rw [show (a + c == b + c) = (a == b) by rw [Bool.eq_iff_iff, beq_iff_eq, beq_iff_eq]; omega]
    exact beq_self_eq_true _
  by_cases h1 : In64 (a + c)
  · by_cases h2 : In64 (b + c)
    · go_enter Try.func6, Try.ntmps6
      go_wp2_with (go_at_call 8; refine (awake_any _).mono ?_; rintro e w' ⟨rfl, hb⟩)
      refine (add_in _ _ ha hc h1 _).mono ?_
      rintro e w' ⟨rfl, rfl⟩
      go_wp2_with fail
      refine (add_in _ _ hb' hc h2 _).mono ?_
      rintro e w' ⟨rfl, rfl⟩
      go_wp2_with fail
      go_ret
      exact ⟨rfl, hb⟩
    · go_enter Try.func6, Try.ntmps6
      go_wp2_with (go_at_call 8; refine (awake_any _).mono ?_; rintro e w' ⟨rfl, hb⟩)
      refine (add_in _ _ ha hc h1 _).mono ?_
      rintro e w' ⟨rfl, rfl⟩
      go_wp2_with fail
      refine (add_out _ _ hb' hc h2 _).mono ?_
      rintro e w' ⟨rfl, rfl⟩
      go_wp2_with fail
      go_ret
      exact ⟨rfl, hb⟩
  · go_enter Try.func6, Try.ntmps6
    go_wp2_with (go_at_call 8; refine (awake_any _).mono ?_; rintro e w' ⟨rfl, hb⟩)
    refine (add_out _ _ ha hc h1 _).mono ?_
    rintro e w' ⟨rfl, rfl⟩
    go_wp2_with fail
    refine (add_any _ _ hb' hc _).mono ?_
    rintro e w' ⟨rfl, rfl⟩
    go_wp2_with fail
    go_ret
    exact ⟨rfl, hb⟩

theorem CalcTurns_walk (a : Int) (b : Int) (ha : In64 a) (hb : In64 b) (w : World) :
    Calls Try.prog 7 #[.int .i64 a, .int .i64 b] w fun e w' => e = .returned (.bool true) ∧ Below w.heap.size w w' := by
  have hb' := hb
  clear hb
  have c1 := fun w => add_any b a hb' ha w
  have c2 := fun w => mul_any b a hb' ha w
  rw [Int.add_comm b a] at c1
  rw [Int.mul_comm b a] at c2
  have H1 := Lib.hid c1
  have H2 := Lib.hid c2
  clear c1 c2
  by_cases h1 : In64 (a - b)
  · by_cases h2 : In64 (b - a)
    · have c3 := fun w => neg_any (a - b) h1 w
      have e3 : -(a - b) = b - a := by omega
      rw [e3, capN_in h2, capE_in h2] at c3
      clear e3
      have H3 := Lib.hid c3
      clear c3
      go_enter Try.func7, Try.ntmps7
      go_wp2_with (go_at_call 8; refine (awake_any _).mono ?_; rintro e w' ⟨rfl, hb⟩)
      refine (add_any _ _ ha hb' _).mono ?_
      rintro e w' ⟨rfl, rfl⟩
      go_wp2_with fail
      refine (H1.out _).mono ?_
      rintro e w' ⟨rfl, rfl⟩
      go_wp2_with fail
      refine (mul_any _ _ ha hb' _).mono ?_
      rintro e w' ⟨rfl, rfl⟩
      go_wp2_with fail
      refine (H2.out _).mono ?_
      rintro e w' ⟨rfl, rfl⟩
      go_wp2_with fail
      refine (sub_in _ _ ha hb' h1 _).mono ?_
      rintro e w' ⟨rfl, rfl⟩
      go_wp2_with fail
      refine (sub_in _ _ hb' ha h2 _).mono ?_
      rintro e w' ⟨rfl, rfl⟩
      go_wp2_with fail
      refine (H3.out _).mono ?_
      rintro e w' ⟨rfl, rfl⟩
      go_wp2_with fail
      go_ret
      exact ⟨rfl, hb⟩
    · go_enter Try.func7, Try.ntmps7
      go_wp2_with (go_at_call 8; refine (awake_any _).mono ?_; rintro e w' ⟨rfl, hb⟩)
      refine (add_any _ _ ha hb' _).mono ?_
      rintro e w' ⟨rfl, rfl⟩
      go_wp2_with fail
      refine (H1.out _).mono ?_
      rintro e w' ⟨rfl, rfl⟩
      go_wp2_with fail
      refine (mul_any _ _ ha hb' _).mono ?_
      rintro e w' ⟨rfl, rfl⟩
      go_wp2_with fail
      refine (H2.out _).mono ?_
      rintro e w' ⟨rfl, rfl⟩
      go_wp2_with fail
      refine (sub_in _ _ ha hb' h1 _).mono ?_
      rintro e w' ⟨rfl, rfl⟩
      go_wp2_with fail
      refine (sub_out _ _ hb' ha h2 _).mono ?_
      rintro e w' ⟨rfl, rfl⟩
      go_wp2_with fail
      go_ret
      exact ⟨rfl, hb⟩
  · go_enter Try.func7, Try.ntmps7
    go_wp2_with (go_at_call 8; refine (awake_any _).mono ?_; rintro e w' ⟨rfl, hb⟩)
    refine (add_any _ _ ha hb' _).mono ?_
    rintro e w' ⟨rfl, rfl⟩
    go_wp2_with fail
    refine (H1.out _).mono ?_
    rintro e w' ⟨rfl, rfl⟩
    go_wp2_with fail
    refine (mul_any _ _ ha hb' _).mono ?_
    rintro e w' ⟨rfl, rfl⟩
    go_wp2_with fail
    refine (H2.out _).mono ?_
    rintro e w' ⟨rfl, rfl⟩
    go_wp2_with fail
    refine (sub_out _ _ ha hb' h1 _).mono ?_
    rintro e w' ⟨rfl, rfl⟩
    go_wp2_with fail
    refine (sub_any _ _ hb' ha _).mono ?_
    rintro e w' ⟨rfl, rfl⟩
    go_wp2_with fail
    go_ret
    exact ⟨rfl, hb⟩

theorem CalcBack_walk (a b : Int) (ha : In64 a) (hb : In64 b) (w : World) :
    Calls Try.prog 5 #[.int .i64 a, .int .i64 b] w fun e w' => e = .returned (.bool true) ∧ Below w.heap.size w w' := by
  have hb' := hb
  clear hb
  have H3' := Lib.hid (fun w => div_any a b ha hb' w)
  by_cases h0 : b = 0
  · subst h0
    have c3 := H3'.out
    rw [show divN a 0 = 0 from rfl, show divE a 0 = 10 from rfl] at c3
    have H3 := Lib.hid c3
    clear H3' c3
    have h1 : In64 (a + 0) := by simpa using ha
    have H1 := Lib.hid (fun w => add_in a 0 ha hb' h1 w)
    have H2 := Lib.hid (fun w => sub_in a 0 ha hb' (by simpa using ha) w)
    go_enter Try.func5, Try.ntmps5
    go_wp2_with (go_at_call 8; refine (awake_any _).mono ?_; rintro e w' ⟨rfl, hb⟩)
    refine (H1.out _).mono ?_
    rintro e w' ⟨rfl, rfl⟩
    go_wp2_with fail
    refine (H2.out _).mono ?_
    rintro e w' ⟨rfl, rfl⟩
    go_wp2_with fail
    refine (H3.out _).mono ?_
    rintro e w' ⟨rfl, rfl⟩
    go_wp2_with fail
    go_ret
    exact ⟨rfl, hb⟩
  have g0 : (b == 0) = false := by simpa using h0
  by_cases hm : a = -9223372036854775808 ∧ b = -1
  · obtain ⟨rfl, rfl⟩ := hm
    have c3 := H3'.out
    rw [show divN (-9223372036854775808) (-1) = 0 by decide, show divE (-9223372036854775808) (-1) = 9 by decide] at c3
    have H3 := Lib.hid c3
    clear H3' c3
    have h1 : ¬ In64 (-9223372036854775808 + -1) := by decide
    go_enter Try.func5, Try.ntmps5
    go_wp2_with (go_at_call 8; refine (awake_any _).mono ?_; rintro e w' ⟨rfl, hb⟩)
    refine (add_out _ _ ha hb' h1 _).mono ?_
    rintro e w' ⟨rfl, rfl⟩
    go_wp2_with fail
    refine (H3.out _).mono ?_
    rintro e w' ⟨rfl, rfl⟩
    go_wp2_with fail
    go_ret
    exact ⟨rfl, hb⟩
  have c3 := H3'.out
  have c4 := fun w => mod_any a b ha hb' w
  have q64 := quo_64' a b ha h0 hm
  have m64 := mod_64 a b hb' h0
  have p64 := prod_64 a b ha
  have e6 : a.tdiv b * b + a.tmod b = a := by rw [Int.mul_comm]; exact Int.mul_tdiv_add_tmod a b
  have c5 := fun w => mul_any (a.tdiv b) b q64 hb' w
  have c6 := fun w => add_any (a.tdiv b * b) (a.tmod b) p64 m64 w
  rw [divN_else h0 hm, divE_else h0 hm] at c3
  rw [show modN a b = a.tmod b from if_neg h0, show modE b = 0 from if_neg h0] at c4
  rw [capN_in p64, capE_in p64] at c5
  rw [e6, capN_in ha, capE_in ha] at c6
  clear H3' e6
  generalize a.tdiv b * b = pp at *
  generalize a.tdiv b = qq at *
  generalize a.tmod b = rr at *
  have H3 := Lib.hid c3
  have H4 := Lib.hid c4
  have H5 := Lib.hid c5
  have H6 := Lib.hid c6
  clear c3 c4 c5 c6
  by_cases h1 : In64 (a + b)
  · have c2 := fun w => sub_any (a + b) b h1 hb' w
    rw [Int.add_sub_cancel, capN_in ha, capE_in ha] at c2
    have H1 := Lib.hid (fun w => add_in a b ha hb' h1 w)
    have H2 := Lib.hid c2
    clear c2 hm
    go_enter Try.func5, Try.ntmps5
    go_wp2_with (go_at_call 8; refine (awake_any _).mono ?_; rintro e w' ⟨rfl, hb⟩)
    refine (H1.out _).mono ?_
    rintro e w' ⟨rfl, rfl⟩
    go_wp2_with fail
    refine (H2.out _).mono ?_
    rintro e w' ⟨rfl, rfl⟩
    go_wp2_with fail
    refine (H3.out _).mono ?_
    rintro e w' ⟨rfl, rfl⟩
    go_wp2_with fail
    refine (H4.out _).mono ?_
    rintro e w' ⟨rfl, rfl⟩
    go_wp2_with fail
    refine (H5.out _).mono ?_
    rintro e w' ⟨rfl, rfl⟩
    go_wp2_with fail
    refine (H6.out _).mono ?_
    rintro e w' ⟨rfl, rfl⟩
    go_wp2_with fail
    go_ret
    exact ⟨rfl, hb⟩
  · clear hm
    go_enter Try.func5, Try.ntmps5
    go_wp2_with (go_at_call 8; refine (awake_any _).mono ?_; rintro e w' ⟨rfl, hb⟩)
    refine (add_out _ _ ha hb' h1 _).mono ?_
    rintro e w' ⟨rfl, rfl⟩
    go_wp2_with fail
    refine (H3.out _).mono ?_
    rintro e w' ⟨rfl, rfl⟩
    go_wp2_with fail
    refine (H4.out _).mono ?_
    rintro e w' ⟨rfl, rfl⟩
    go_wp2_with fail
    refine (H5.out _).mono ?_
    rintro e w' ⟨rfl, rfl⟩
    go_wp2_with fail
    refine (H6.out _).mono ?_
    rintro e w' ⟨rfl, rfl⟩
    go_wp2_with fail
    go_ret
    exact ⟨rfl, hb⟩
end Go.Proofs.Ytdfgpaoehikdpaa.Calc
