/- What each function of package calc, and of the document's answers for it, gives: a contract each. -/
import Derived.Test.YtdfgpaoehikdpaaRows
import Derived.Test.YtdfgpaoehikdpaaNums
import Derived.WalkKit
import Derived.Lib.Hide
import Derived.Outline
import Derived.Test.YtdfgpaoehikdpaaShelf
import Derived.Deep.QuietTactic
import Derived.BigQuiet
import Derived.Deep.RegionWith
namespace Go.Proofs.Ytdfgpaoehikdpaa.Calc
open Go.RowKit Go.Proofs.Ytdfgpaoehikdpaa.Nums
set_option linter.unusedVariables false

theorem beq_dec {p q : Prop} [Decidable p] [Decidable q] (h : p ↔ q) : (decide p == decide q) = true := by simp [h]
theorem bne_dec {p q : Prop} [Decidable p] [Decidable q] (h : p ↔ ¬ q) : (decide p == decide q) = false := by
  by_cases g : q <;> simp [h, g]

theorem add_in (a b : Int) (ha : In64 a) (hb : In64 b) (h : In64 (a + b)) (w : World) :
    Calls Try.prog 9 #[.int .i64 a, .int .i64 b] w fun e w' => e = .returned (.tuple #[.int .i64 (a + b), .int .i64 0]) ∧ w = w' := by
  unfold In64 at *
  have h1 : (decide (a < a + b) == decide (0 < b)) = true := beq_dec (by omega)
  go_enter Try.func9, Try.ntmps9
  go_wp2
  go_ret2
  exact ⟨rfl, rfl⟩
theorem add_out (a b : Int) (ha : In64 a) (hb : In64 b) (h : ¬ In64 (a + b)) (w : World) :
    Calls Try.prog 9 #[.int .i64 a, .int .i64 b] w fun e w' => e = .returned (.tuple #[.int .i64 0, .int .i64 9]) ∧ w = w' := by
  obtain ⟨k, hk, hk2⟩ := wrap_is (a + b)
  have h1 : (decide (a < wrap64 (a + b)) == decide (0 < b)) = false := bne_dec (by unfold In64 at *; omega)
  unfold In64 at *
  clear hk hk2 h
  go_enter Try.func9, Try.ntmps9
  go_wp2
  go_ret2
  exact ⟨rfl, rfl⟩
theorem add_any (a b : Int) (ha : In64 a) (hb : In64 b) (w : World) :
    Calls Try.prog 9 #[.int .i64 a, .int .i64 b] w fun e w' => e = .returned (.tuple #[.int .i64 (capN (a + b)), .int .i64 (capE (a + b))]) ∧ w = w' := by
  by_cases h : In64 (a + b)
  · rw [capN_in h, capE_in h]; exact add_in a b ha hb h w
  · rw [capN_out h, capE_out h]; exact add_out a b ha hb h w

theorem sub_in (a b : Int) (ha : In64 a) (hb : In64 b) (h : In64 (a - b)) (w : World) :
    Calls Try.prog 11 #[.int .i64 a, .int .i64 b] w fun e w' => e = .returned (.tuple #[.int .i64 (a - b), .int .i64 0]) ∧ w = w' := by
  unfold In64 at *
  have h1 : (decide (a - b < a) == decide (0 < b)) = true := beq_dec (by omega)
  go_enter Try.func11, Try.ntmps11
  go_wp2
  go_ret2
  exact ⟨rfl, rfl⟩
theorem sub_out (a b : Int) (ha : In64 a) (hb : In64 b) (h : ¬ In64 (a - b)) (w : World) :
    Calls Try.prog 11 #[.int .i64 a, .int .i64 b] w fun e w' => e = .returned (.tuple #[.int .i64 0, .int .i64 9]) ∧ w = w' := by
  obtain ⟨k, hk, hk2⟩ := wrap_is (a - b)
  have h1 : (decide (wrap64 (a - b) < a) == decide (0 < b)) = false := bne_dec (by unfold In64 at *; omega)
  unfold In64 at *
  clear hk hk2 h
  go_enter Try.func11, Try.ntmps11
  go_wp2
  go_ret2
  exact ⟨rfl, rfl⟩
theorem sub_any (a b : Int) (ha : In64 a) (hb : In64 b) (w : World) :
    Calls Try.prog 11 #[.int .i64 a, .int .i64 b] w fun e w' => e = .returned (.tuple #[.int .i64 (capN (a - b)), .int .i64 (capE (a - b))]) ∧ w = w' := by
  by_cases h : In64 (a - b)
  · rw [capN_in h, capE_in h]; exact sub_in a b ha hb h w
  · rw [capN_out h, capE_out h]; exact sub_out a b ha hb h w

theorem neg_any (a : Int) (ha : In64 a) (w : World) :
    Calls Try.prog 13 #[.int .i64 a] w fun e w' => e = .returned (.tuple #[.int .i64 (capN (-a)), .int .i64 (capE (-a))]) ∧ w = w' := by
  go_enter Try.func13, Try.ntmps13
  go_wp2_with (go_at_call 11; refine (sub_any 0 a (by decide) ha _).mono ?_; rintro e w' ⟨rfl, rfl⟩)
  go_ret2
  exact ⟨rfl, rfl⟩

theorem mul_zero (a : Int) (ha : In64 a) (w : World) :
    Calls Try.prog 15 #[.int .i64 a, .int .i64 0] w fun e w' => e = .returned (.tuple #[.int .i64 0, .int .i64 0]) ∧ w = w' := by
  go_enter Try.func15, Try.ntmps15
  go_wp2_with fail
  go_ret2
  exact ⟨rfl, rfl⟩
theorem mul_one (a : Int) (ha : In64 a) (w : World) :
    Calls Try.prog 15 #[.int .i64 a, .int .i64 (-1)] w fun e w' => e = .returned (.tuple #[.int .i64 (capN (-a)), .int .i64 (capE (-a))]) ∧ w = w' := by
  go_enter Try.func15, Try.ntmps15
  go_wp2_with (go_at_call 13; refine (neg_any a ha _).mono ?_; rintro e w' ⟨rfl, rfl⟩)
  go_ret2
  exact ⟨rfl, rfl⟩
theorem mul_in (a b : Int) (ha : In64 a) (hb : In64 b) (h0 : b ≠ 0) (h1 : b ≠ -1) (h : In64 (a * b)) (w : World) :
    Calls Try.prog 15 #[.int .i64 a, .int .i64 b] w fun e w' => e = .returned (.tuple #[.int .i64 (a * b), .int .i64 0]) ∧ w = w' := by
  have g0 : (b == 0) = false := by simpa using h0
  have g1 : (b == -1) = false := by simpa using h1
  have hq : (a * b).tdiv b = a := Int.mul_tdiv_cancel a h0
  obtain ⟨p, hp⟩ : ∃ p, p = a * b := ⟨_, rfl⟩
  rw [← hp] at h hq ⊢
  have hw : IntKind.i64.wrap (a * b) = p := by rw [← hp]; exact Go.IntWalk.i64_in p h
  have hd : IntKind.i64.wrap (p.tdiv b) = a := by rw [hq]; exact Go.IntWalk.i64_in a ha
  clear h1 hp h hq
  go_enter Try.func15, Try.ntmps15
  go_wp2_with fail
  go_ret2
  exact ⟨rfl, rfl⟩
theorem mul_out (a b : Int) (ha : In64 a) (hb : In64 b) (h0 : b ≠ 0) (h1 : b ≠ -1) (h : ¬ In64 (a * b)) (w : World) :
    Calls Try.prog 15 #[.int .i64 a, .int .i64 b] w fun e w' => e = .returned (.tuple #[.int .i64 0, .int .i64 9]) ∧ w = w' := by
  have g0 : (b == 0) = false := by simpa using h0
  have g1 : (b == -1) = false := by simpa using h1
  obtain ⟨p, hp, hp2, hp3⟩ : ∃ p, p = wrap64 (a * b) ∧ In64 p ∧ p.tdiv b ≠ a := ⟨_, rfl, (wrap_is _).elim fun _ h => h.2, prod_out a b hb h0 h⟩
  obtain ⟨q, hq, hq2⟩ : ∃ q, q = p.tdiv b ∧ In64 q := ⟨_, rfl, quo_64 p b hp2 h0 h1⟩
  have hw : IntKind.i64.wrap (a * b) = p := by rw [Go.IntWalk.i64_left, hp]
  have hd : IntKind.i64.wrap (p.tdiv b) = q := by rw [← hq]; exact Go.IntWalk.i64_in q hq2
  have g2 : (q == a) = false := by rw [hq]; simpa using hp3
  clear h1 hp h hq hp3 hq2
  go_enter Try.func15, Try.ntmps15
  go_wp2_with fail
  go_ret2
  exact ⟨rfl, rfl⟩
theorem mul_any (a b : Int) (ha : In64 a) (hb : In64 b) (w : World) :
    Calls Try.prog 15 #[.int .i64 a, .int .i64 b] w fun e w' => e = .returned (.tuple #[.int .i64 (capN (a * b)), .int .i64 (capE (a * b))]) ∧ w = w' := by
  by_cases h0 : b = 0
  · subst h0; rw [Int.mul_zero]; exact mul_zero a ha w
  by_cases h1 : b = -1
  · subst h1; rw [Int.mul_neg, Int.mul_one]; exact mul_one a ha w
  by_cases h : In64 (a * b)
  · rw [capN_in h, capE_in h]; exact mul_in a b ha hb h0 h1 h w
  · rw [capN_out h, capE_out h]; exact mul_out a b ha hb h0 h1 h w

theorem div_any (a b : Int) (ha : In64 a) (hb : In64 b) (w : World) :
    Calls Try.prog 17 #[.int .i64 a, .int .i64 b] w fun e w' => e = .returned (.tuple #[.int .i64 (divN a b), .int .i64 (divE a b)]) ∧ w = w' := by
  by_cases h0 : b = 0
  · subst h0
    go_enter Try.func17, Try.ntmps17
    go_wp2_with fail
    go_ret2
    exact ⟨by simp [divN, divE], rfl⟩
  have g0 : (b == 0) = false := by simpa using h0
  by_cases h1 : a = -9223372036854775808 ∧ b = -1
  · obtain ⟨rfl, rfl⟩ := h1
    go_enter Try.func17, Try.ntmps17
    go_wp2_with fail
    go_ret2
    exact ⟨by simp [divN, divE], rfl⟩
  obtain ⟨q, hq, hq2⟩ : ∃ q, q = a.tdiv b ∧ In64 q := ⟨_, rfl, quo_64' a b ha h0 h1⟩
  have hd : IntKind.i64.wrap (a.tdiv b) = q := by rw [← hq]; exact Go.IntWalk.i64_in q hq2
  have HN : Hid (divN a b = q) := Lib.hid (by rw [divN_else h0 h1, hq])
  have HE : Hid (divE a b = 0) := Lib.hid (divE_else h0 h1)
  by_cases h2 : a = -9223372036854775808
  · have h3 : b ≠ -1 := fun e => h1 ⟨h2, e⟩
    have g1 : (a == -9223372036854775808) = true := by simpa using h2
    have g2 : (b == -1) = false := by simpa using h3
    clear hq hq2 h1 h2 h3
    go_enter Try.func17, Try.ntmps17
    go_wp2_with fail
    go_ret2
    exact ⟨by rw [HN.out, HE.out]; rfl, rfl⟩
  · have g1 : (a == -9223372036854775808) = false := by simpa using h2
    clear hq hq2 h1 h2
    go_enter Try.func17, Try.ntmps17
    go_wp2_with fail
    go_ret2
    exact ⟨by rw [HN.out, HE.out]; rfl, rfl⟩

theorem mod_any (a b : Int) (ha : In64 a) (hb : In64 b) (w : World) :
    Calls Try.prog 19 #[.int .i64 a, .int .i64 b] w fun e w' => e = .returned (.tuple #[.int .i64 (modN a b), .int .i64 (modE b)]) ∧ w = w' := by
  by_cases h0 : b = 0
  · subst h0
    go_enter Try.func19, Try.ntmps19
    go_wp2_with fail
    go_ret2
    exact ⟨by simp [modN, modE], rfl⟩
  have g0 : (b == 0) = false := by simpa using h0
  have HN : Hid (modN a b = a.tmod b) := Lib.hid (by rw [modN, if_neg h0])
  have HE : Hid (modE b = 0) := Lib.hid (if_neg h0)
  go_enter Try.func19, Try.ntmps19
  go_wp2_with fail
  go_ret2
  exact ⟨by rw [HN.out, HE.out]; rfl, rfl⟩

theorem push_any (n d : Int) (hn : In64 n) (hd : In64 d) (w : World) :
    Calls Try.prog 27 #[.int .i64 n, .int .i64 d] w fun e w' => e = .returned (.tuple #[.int .i64 (pushN n d), .int .i64 (pushE n d)]) ∧ w = w' := by
  by_cases h : In64 (n * 10)
  · have HN : Hid (pushN n d = capN (n * 10 + d)) := Lib.hid (if_pos h)
    have HE : Hid (pushE n d = capE (n * 10 + d)) := Lib.hid (if_pos h)
    have e1 := capN_in h
    have e2 := capE_in h
    have c := mul_any n 10 hn (by decide)
    rw [e1, e2] at c
    clear e1 e2
    go_enter Try.func27, Try.ntmps27
    go_wp2_with (first | (go_at_call 15; refine (c _).mono ?_; rintro e w' ⟨rfl, rfl⟩) | (go_at_call 9; refine (add_any _ _ h hd _).mono ?_; rintro e w' ⟨rfl, rfl⟩))
    go_ret2
    exact ⟨by rw [HN.out, HE.out]; rfl, rfl⟩
  · have HN : Hid (pushN n d = 0) := Lib.hid (if_neg h)
    have HE : Hid (pushE n d = 9) := Lib.hid (if_neg h)
    have e1 := capN_out h
    have e2 := capE_out h
    have c := mul_any n 10 hn (by decide)
    rw [e1, e2] at c
    clear e1 e2
    go_enter Try.func27, Try.ntmps27
    go_wp2_with (go_at_call 15; refine (c _).mono ?_; rintro e w' ⟨rfl, rfl⟩)
    go_ret2
    exact ⟨by rw [HN.out, HE.out]; rfl, rfl⟩

theorem size_any (n : Int) (h : In64 n) (w : World) :
    Calls Try.prog 23 #[.int .i64 n] w fun e w' => e = .returned (.int .u64 (mag n)) ∧ w = w' := by
  unfold In64 at h
  by_cases g : n < 0
  · have HM : Hid (mag n = -(n + 1) + 1) := Lib.hid (by rw [mag_neg g]; omega)
    go_enter Try.func23, Try.ntmps23
    go_wp2_with fail
    go_ret
    exact ⟨by rw [HM.out]; rfl, rfl⟩
  · have HM : Hid (mag n = n) := Lib.hid (mag_pos (by omega))
    go_enter Try.func23, Try.ntmps23
    go_wp2_with fail
    go_ret
    exact ⟨by rw [HM.out]; rfl, rfl⟩

theorem sign_any (s : Int) (b : Bool) (h0 : 0 ≤ s) (h1 : s ≤ 18446744073709551615) (w : World) :
    Calls Try.prog 24 #[.int .u64 s, .bool b] w fun e w' => e = .returned (.tuple #[.int .i64 (sgnN s b), .bool (sgnB s b)]) ∧ w = w' := by
  cases b
  · by_cases g : s < 9223372036854775808
    · have HM : Hid (sgnN s false = s ∧ sgnB s false = true) := Lib.hid (by unfold sgnN sgnB; simp [g])
      go_enter Try.func24, Try.ntmps24
      go_wp2_with fail
      go_ret2
      exact ⟨by rw [HM.out.1, HM.out.2]; rfl, rfl⟩
    · have HM : Hid (sgnN s false = 0 ∧ sgnB s false = false) := Lib.hid (by unfold sgnN sgnB; simp [g])
      go_enter Try.func24, Try.ntmps24
      go_wp2_with fail
      go_ret2
      exact ⟨by rw [HM.out.1, HM.out.2]; rfl, rfl⟩
  · by_cases g : 9223372036854775808 < s
    · have HM : Hid (sgnN s true = 0 ∧ sgnB s true = false) := Lib.hid (by unfold sgnN sgnB; simp; omega)
      go_enter Try.func24, Try.ntmps24
      go_wp2_with fail
      go_ret2
      exact ⟨by rw [HM.out.1, HM.out.2]; rfl, rfl⟩
    by_cases g2 : s = 9223372036854775808
    · subst g2
      go_enter Try.func24, Try.ntmps24
      go_wp2_with fail
      go_ret2
      exact ⟨rfl, rfl⟩
    · have g3 : (s == 9223372036854775808) = false := by simpa using g2
      have g4 : s ≤ 9223372036854775807 := by omega
      clear g2
      have HM : Hid (sgnN s true = -s ∧ sgnB s true = true) := Lib.hid (by unfold sgnN sgnB; simp; omega)
      go_enter Try.func24, Try.ntmps24
      go_wp2_with fail
      go_ret2
      exact ⟨by rw [HM.out.1, HM.out.2]; rfl, rfl⟩

theorem answer_any (n : Int) (ok : Bool) (w : World) :
    Calls Try.prog 25 #[.int .i64 n, .bool ok] w fun e w' => e = .returned (.tuple #[.int .i64 (ansN n ok), .int .i64 (ansE ok)]) ∧ w = w' := by
  cases ok
  all_goals
    go_enter Try.func25, Try.ntmps25
    go_wp2_with fail
    go_ret2
    exact ⟨rfl, rfl⟩

theorem add64_0 (x y : Int) (hx : 0 ≤ x) (hy : 0 ≤ y) (w : World) : (callFunc 22 #[.int .u64 x, .int .u64 y, .int .u64 0]).run Try.prog w =
    .ok (.value (.tuple #[.int .u64 (lo64 (x + y)), .int .u64 (hi64 (x + y))])) w := by
  rw [run_callFunc_extern Try.func22 (by kernel_rfl) (by kernel_rfl) (by kernel_rfl) (e := add64Entry) (by kernel_rfl), run_add64 x y 0 hx hy (Int.le_refl 0) (by decide)]
  simp only [Result.andThen, Int.add_zero]
  rfl

theorem ref_add (a b : Int) (ha : In64 a) (hb : In64 b) (w : World) :
    Calls Try.prog 10 #[.int .i64 a, .int .i64 b] w fun e w' => e = .returned (.tuple #[.int .i64 (capN (a + b)), .int .i64 (capE (a + b))]) ∧ w = w' := by
  have ma := mag_bd ha
  have mb := mag_bd hb
  by_cases g : (a < 0 ↔ b < 0)
  · have g1 : (decide (a < 0) == decide (b < 0)) = true := beq_dec g
    have l := lo64_bd (mag a + mag b)
    have HT := Lib.hid (fun h => sum_yes _ _ (decide (b < 0)) (by omega) (add_same a b _ g (by simp)) h)
    have HF := Lib.hid (fun h => sum_no _ _ (decide (b < 0)) (by omega) (add_same a b _ g (by simp)) h)
    go_enter Try.func10, Try.ntmps10
    go_wp2_with (first | simp only [add64_0 _ _ ma.1 mb.1] | (go_at_call 23; refine (size_any _ (by assumption) _).mono ?_; rintro e w' ⟨rfl, rfl⟩) | (go_at_call 24; refine (sign_any _ _ (by omega) (by omega) _).mono ?_; rintro e w' ⟨rfl, rfl⟩) | (go_at_call 25; refine (answer_any _ _ _).mono ?_; rintro e w' ⟨rfl, rfl⟩))
    · go_ret2
      exact ⟨by rw [← (HT.out (by assumption)).1, ← (HT.out (by assumption)).2]; rfl, rfl⟩
    · go_ret2
      exact ⟨by rw [← (HF.out (by assumption)).1, ← (HF.out (by assumption)).2]; rfl, rfl⟩
  · have g1 : (decide (a < 0) == decide (b < 0)) = false := bne_dec (by omega)
    have HG := Lib.hid (fun h => ref_val (s := mag a - mag b) h (add_ge a b g))
    have HL := Lib.hid (fun h => ref_val (s := mag b - mag a) h (add_lt a b g))
    clear g
    go_enter Try.func10, Try.ntmps10
    go_wp2_with (first | (go_at_call 23; refine (size_any _ (by assumption) _).mono ?_; rintro e w' ⟨rfl, rfl⟩) | (go_at_call 24; refine (sign_any _ _ (by omega) (by omega) _).mono ?_; rintro e w' ⟨rfl, rfl⟩) | (go_at_call 25; refine (answer_any _ _ _).mono ?_; rintro e w' ⟨rfl, rfl⟩))
    · go_ret2
      exact ⟨by rw [← (HG.out (by omega)).1, ← (HG.out (by omega)).2]; rfl, rfl⟩
    · go_ret2
      exact ⟨by rw [← (HL.out (by omega)).1, ← (HL.out (by omega)).2]; rfl, rfl⟩

theorem ref_sub (a b : Int) (ha : In64 a) (hb : In64 b) (w : World) :
    Calls Try.prog 12 #[.int .i64 a, .int .i64 b] w fun e w' => e = .returned (.tuple #[.int .i64 (capN (a - b)), .int .i64 (capE (a - b))]) ∧ w = w' := by
  have ma := mag_bd ha
  have mb := mag_bd hb
  by_cases g : (a < 0 ↔ b < 0)
  · have g1 : (decide (a < 0) == decide (b < 0)) = true := beq_dec g
    have HG := Lib.hid (fun h => ref_val (s := mag a - mag b) h (sub_ge a b (decide (a < 0)) g (by simp)))
    have HL := Lib.hid (fun h => ref_val (s := mag b - mag a) h (sub_lt a b (decide (0 ≤ a)) g (by simp)))
    clear g
    go_enter Try.func12, Try.ntmps12
    go_wp2_with (first | (go_at_call 23; refine (size_any _ (by assumption) _).mono ?_; rintro e w' ⟨rfl, rfl⟩) | (go_at_call 24; refine (sign_any _ _ (by omega) (by omega) _).mono ?_; rintro e w' ⟨rfl, rfl⟩) | (go_at_call 25; refine (answer_any _ _ _).mono ?_; rintro e w' ⟨rfl, rfl⟩))
    · go_ret2
      exact ⟨by rw [← (HG.out (by omega)).1, ← (HG.out (by omega)).2]; rfl, rfl⟩
    · go_ret2
      exact ⟨by rw [← (HL.out (by omega)).1, ← (HL.out (by omega)).2]; rfl, rfl⟩
  · have g1 : (decide (a < 0) == decide (b < 0)) = false := bne_dec (by omega)
    have l := lo64_bd (mag a + mag b)
    have HT := Lib.hid (fun h => sum_yes _ _ (decide (a < 0)) (by omega) (sub_diff a b g) h)
    have HF := Lib.hid (fun h => sum_no _ _ (decide (a < 0)) (by omega) (sub_diff a b g) h)
    clear g
    go_enter Try.func12, Try.ntmps12
    go_wp2_with (first | simp only [add64_0 _ _ ma.1 mb.1] | (go_at_call 23; refine (size_any _ (by assumption) _).mono ?_; rintro e w' ⟨rfl, rfl⟩) | (go_at_call 24; refine (sign_any _ _ (by omega) (by omega) _).mono ?_; rintro e w' ⟨rfl, rfl⟩) | (go_at_call 25; refine (answer_any _ _ _).mono ?_; rintro e w' ⟨rfl, rfl⟩))
    · go_ret2
      exact ⟨by rw [← (HT.out (by assumption)).1, ← (HT.out (by assumption)).2]; rfl, rfl⟩
    · go_ret2
      exact ⟨by rw [← (HF.out (by assumption)).1, ← (HF.out (by assumption)).2]; rfl, rfl⟩

theorem ref_neg (a : Int) (ha : In64 a) (w : World) :
    Calls Try.prog 14 #[.int .i64 a] w fun e w' => e = .returned (.tuple #[.int .i64 (capN (-a)), .int .i64 (capE (-a))]) ∧ w = w' := by
  have ma := mag_bd ha
  have HG := Lib.hid (ref_val (s := mag a) ma.1 (neg_is a))
  go_enter Try.func14, Try.ntmps14
  go_wp2_with (first | (go_at_call 23; refine (size_any _ (by assumption) _).mono ?_; rintro e w' ⟨rfl, rfl⟩) | (go_at_call 24; refine (sign_any _ _ (by omega) (by omega) _).mono ?_; rintro e w' ⟨rfl, rfl⟩) | (go_at_call 25; refine (answer_any _ _ _).mono ?_; rintro e w' ⟨rfl, rfl⟩))
  go_ret2
  exact ⟨by rw [← HG.out.1, ← HG.out.2]; rfl, rfl⟩

theorem ref_div (a b : Int) (ha : In64 a) (hb : In64 b) (w : World) :
    Calls Try.prog 18 #[.int .i64 a, .int .i64 b] w fun e w' => e = .returned (.tuple #[.int .i64 (divN a b), .int .i64 (divE a b)]) ∧ w = w' := by
  by_cases h0 : b = 0
  · subst h0
    go_enter Try.func18, Try.ntmps18
    go_wp2_with fail
    go_ret2
    exact ⟨by simp [divN, divE], rfl⟩
  have g0 : (b == 0) = false := by simpa using h0
  have ma := mag_bd ha
  have mb := mag_bd hb
  have m1 : 1 ≤ mag b := by rw [mag_abs]; omega
  have q0 : 0 ≤ mag a / mag b := Int.ediv_nonneg ma.1 mb.1
  have q1 : mag a / mag b ≤ mag a := Int.ediv_le_self _ ma.1
  have HG := Lib.hid (ref_val (s := mag a / mag b) q0 (quo_is a b (!(decide (a < 0) == decide (b < 0))) (by simp)))
  have HC := Lib.hid (div_cap a b ha h0)
  go_enter Try.func18, Try.ntmps18
  go_wp2_with (first | (go_at_call 23; refine (size_any _ (by assumption) _).mono ?_; rintro e w' ⟨rfl, rfl⟩) | (go_at_call 24; refine (sign_any _ _ (by omega) (by omega) _).mono ?_; rintro e w' ⟨rfl, rfl⟩) | (go_at_call 25; refine (answer_any _ _ _).mono ?_; rintro e w' ⟨rfl, rfl⟩))
  go_ret2
  exact ⟨by rw [← HC.out.1, ← HC.out.2, ← HG.out.1, ← HG.out.2]; rfl, rfl⟩

theorem ref_mod (a b : Int) (ha : In64 a) (hb : In64 b) (w : World) :
    Calls Try.prog 20 #[.int .i64 a, .int .i64 b] w fun e w' => e = .returned (.tuple #[.int .i64 (modN a b), .int .i64 (modE b)]) ∧ w = w' := by
  by_cases h0 : b = 0
  · subst h0
    go_enter Try.func20, Try.ntmps20
    go_wp2_with fail
    go_ret2
    exact ⟨by simp [modN, modE], rfl⟩
  have g0 : (b == 0) = false := by simpa using h0
  have ma := mag_bd ha
  have mb := mag_bd hb
  have m1 : 1 ≤ mag b := by rw [mag_abs]; omega
  have q0 : 0 ≤ mag a % mag b := Int.emod_nonneg _ (by omega)
  have q1 : mag a % mag b < mag b := Int.emod_lt_of_pos _ (by omega)
  have HG := Lib.hid (ref_val (s := mag a % mag b) q0 (rem_is a b))
  have HC := Lib.hid (mod_cap a b hb h0)
  go_enter Try.func20, Try.ntmps20
  go_wp2_with (first | (go_at_call 23; refine (size_any _ (by assumption) _).mono ?_; rintro e w' ⟨rfl, rfl⟩) | (go_at_call 24; refine (sign_any _ _ (by omega) (by omega) _).mono ?_; rintro e w' ⟨rfl, rfl⟩) | (go_at_call 25; refine (answer_any _ _ _).mono ?_; rintro e w' ⟨rfl, rfl⟩))
  go_ret2
  exact ⟨by rw [← HC.out.1, ← HC.out.2, ← HG.out.1, ← HG.out.2]; rfl, rfl⟩

theorem mul64_any (x y : Int) (hx : 0 ≤ x) (hx' : x < 18446744073709551616) (hy : 0 ≤ y) (hy' : y < 18446744073709551616) (w : World) :
    Calls Try.prog 26 #[.int .u64 x, .int .u64 y] w fun e w' => e = .returned (.tuple #[.int .u64 (hi64 (x * y)), .int .u64 (lo64 (x * y))]) ∧ w = w' := by
  obtain ⟨x, rfl⟩ := Int.eq_ofNat_of_zero_le hx
  obtain ⟨y, rfl⟩ := Int.eq_ofNat_of_zero_le hy
  refine (Try.bits_Mul64 x y (by omega) (by omega) w).mono ?_
  rintro e w' ⟨rfl, rfl⟩
  exact ⟨rfl, rfl⟩

theorem ref_mul (a b : Int) (ha : In64 a) (hb : In64 b) (w : World) :
    Calls Try.prog 16 #[.int .i64 a, .int .i64 b] w fun e w' => e = .returned (.tuple #[.int .i64 (capN (a * b)), .int .i64 (capE (a * b))]) ∧ w = w' := by
  have ma := mag_bd ha
  have mb := mag_bd hb
  have l := lo64_bd (mag a * mag b)
  have hm : 0 ≤ mag a * mag b := Int.mul_nonneg ma.1 mb.1
  have HT := Lib.hid (fun h => sum_yes _ _ (!(decide (a < 0) == decide (b < 0))) hm (mul_is a b _ (by simp)) h)
  have HF := Lib.hid (fun h => sum_no _ _ (!(decide (a < 0) == decide (b < 0))) hm (mul_is a b _ (by simp)) h)
  clear hm
  go_enter Try.func16, Try.ntmps16
  go_wp2_with (first | (go_at_call 23; refine (size_any _ (by assumption) _).mono ?_; rintro e w' ⟨rfl, rfl⟩) | (go_at_call 26; refine (mul64_any _ _ ma.1 (by omega) mb.1 (by omega) _).mono ?_; rintro e w' ⟨rfl, rfl⟩) | (go_at_call 24; refine (sign_any _ _ l.1 l.2 _).mono ?_; rintro e w' ⟨rfl, rfl⟩) | (go_at_call 25; refine (answer_any _ _ _).mono ?_; rintro e w' ⟨rfl, rfl⟩))
  · go_ret2
    exact ⟨by rw [← (HT.out (by assumption)).1, ← (HT.out (by assumption)).2]; rfl, rfl⟩
  · go_ret2
    exact ⟨by rw [← (HF.out (by assumption)).1, ← (HF.out (by assumption)).2]; rfl, rfl⟩
end Go.Proofs.Ytdfgpaoehikdpaa.Calc
