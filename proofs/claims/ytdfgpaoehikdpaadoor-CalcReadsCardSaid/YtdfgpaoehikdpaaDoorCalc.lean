/- What each function of package calc, and of the document's answers for it, gives: a contract each. -/
import Derived.Test.YtdfgpaoehikdpaaDoorRows
import Derived.Test.YtdfgpaoehikdpaaDoorNums
import Derived.WalkKit
import Derived.Lib.Hide
import Derived.Outline
import Derived.Deep.QuietTactic
import Derived.BigQuiet
import Derived.Deep.RegionWith
namespace Go.Proofs.YtdfgpaoehikdpaaDoor.Calc
open Go.RowKit Go.Proofs.YtdfgpaoehikdpaaDoor.Nums
set_option linter.unusedVariables false

theorem beq_dec {p q : Prop} [Decidable p] [Decidable q] (h : p ↔ q) : (decide p == decide q) = true := by simp [h]
theorem bne_dec {p q : Prop} [Decidable p] [Decidable q] (h : p ↔ ¬ q) : (decide p == decide q) = false := by
  by_cases g : q <;> simp [h, g]

theorem add_in (a b : Int) (ha : In64 a) (hb : In64 b) (h : In64 (a + b)) (w : World) :
    Calls Tryd.prog 9 #[.int .i64 a, .int .i64 b] w fun e w' => e = .returned (.tuple #[.int .i64 (a + b), .int .i64 0]) ∧ w = w' := by
  unfold In64 at *
  have h1 : (decide (a < a + b) == decide (0 < b)) = true := beq_dec (by omega)
  go_enter Tryd.func9, Tryd.ntmps9
  go_wp2
  go_ret2
  exact ⟨rfl, rfl⟩
theorem add_out (a b : Int) (ha : In64 a) (hb : In64 b) (h : ¬ In64 (a + b)) (w : World) :
    Calls Tryd.prog 9 #[.int .i64 a, .int .i64 b] w fun e w' => e = .returned (.tuple #[.int .i64 0, .int .i64 9]) ∧ w = w' := by
  obtain ⟨k, hk, hk2⟩ := wrap_is (a + b)
  have h1 : (decide (a < wrap64 (a + b)) == decide (0 < b)) = false := bne_dec (by unfold In64 at *; omega)
  unfold In64 at *
  clear hk hk2 h
  go_enter Tryd.func9, Tryd.ntmps9
  go_wp2
  go_ret2
  exact ⟨rfl, rfl⟩
theorem add_any (a b : Int) (ha : In64 a) (hb : In64 b) (w : World) :
    Calls Tryd.prog 9 #[.int .i64 a, .int .i64 b] w fun e w' => e = .returned (.tuple #[.int .i64 (capN (a + b)), .int .i64 (capE (a + b))]) ∧ w = w' := by
  by_cases h : In64 (a + b)
  · rw [capN_in h, capE_in h]; exact add_in a b ha hb h w
  · rw [capN_out h, capE_out h]; exact add_out a b ha hb h w

theorem sub_in (a b : Int) (ha : In64 a) (hb : In64 b) (h : In64 (a - b)) (w : World) :
    Calls Tryd.prog 22 #[.int .i64 a, .int .i64 b] w fun e w' => e = .returned (.tuple #[.int .i64 (a - b), .int .i64 0]) ∧ w = w' := by
  unfold In64 at *
  have h1 : (decide (a - b < a) == decide (0 < b)) = true := beq_dec (by omega)
  go_enter Tryd.func22, Tryd.ntmps22
  go_wp2
  go_ret2
  exact ⟨rfl, rfl⟩
theorem sub_out (a b : Int) (ha : In64 a) (hb : In64 b) (h : ¬ In64 (a - b)) (w : World) :
    Calls Tryd.prog 22 #[.int .i64 a, .int .i64 b] w fun e w' => e = .returned (.tuple #[.int .i64 0, .int .i64 9]) ∧ w = w' := by
  obtain ⟨k, hk, hk2⟩ := wrap_is (a - b)
  have h1 : (decide (wrap64 (a - b) < a) == decide (0 < b)) = false := bne_dec (by unfold In64 at *; omega)
  unfold In64 at *
  clear hk hk2 h
  go_enter Tryd.func22, Tryd.ntmps22
  go_wp2
  go_ret2
  exact ⟨rfl, rfl⟩
theorem sub_any (a b : Int) (ha : In64 a) (hb : In64 b) (w : World) :
    Calls Tryd.prog 22 #[.int .i64 a, .int .i64 b] w fun e w' => e = .returned (.tuple #[.int .i64 (capN (a - b)), .int .i64 (capE (a - b))]) ∧ w = w' := by
  by_cases h : In64 (a - b)
  · rw [capN_in h, capE_in h]; exact sub_in a b ha hb h w
  · rw [capN_out h, capE_out h]; exact sub_out a b ha hb h w

theorem neg_any (a : Int) (ha : In64 a) (w : World) :
    Calls Tryd.prog 17 #[.int .i64 a] w fun e w' => e = .returned (.tuple #[.int .i64 (capN (-a)), .int .i64 (capE (-a))]) ∧ w = w' := by
  go_enter Tryd.func17, Tryd.ntmps17
  go_wp2_with (go_at_call 22; refine (sub_any 0 a (by decide) ha _).mono ?_; rintro e w' ⟨rfl, rfl⟩)
  go_ret2
  exact ⟨rfl, rfl⟩

theorem mul_zero (a : Int) (ha : In64 a) (w : World) :
    Calls Tryd.prog 15 #[.int .i64 a, .int .i64 0] w fun e w' => e = .returned (.tuple #[.int .i64 0, .int .i64 0]) ∧ w = w' := by
  go_enter Tryd.func15, Tryd.ntmps15
  go_wp2_with fail
  go_ret2
  exact ⟨rfl, rfl⟩
theorem mul_one (a : Int) (ha : In64 a) (w : World) :
    Calls Tryd.prog 15 #[.int .i64 a, .int .i64 (-1)] w fun e w' => e = .returned (.tuple #[.int .i64 (capN (-a)), .int .i64 (capE (-a))]) ∧ w = w' := by
  go_enter Tryd.func15, Tryd.ntmps15
  go_wp2_with (go_at_call 17; refine (neg_any a ha _).mono ?_; rintro e w' ⟨rfl, rfl⟩)
  go_ret2
  exact ⟨rfl, rfl⟩
theorem mul_in (a b : Int) (ha : In64 a) (hb : In64 b) (h0 : b ≠ 0) (h1 : b ≠ -1) (h : In64 (a * b)) (w : World) :
    Calls Tryd.prog 15 #[.int .i64 a, .int .i64 b] w fun e w' => e = .returned (.tuple #[.int .i64 (a * b), .int .i64 0]) ∧ w = w' := by
  have g0 : (b == 0) = false := by simpa using h0
  have g1 : (b == -1) = false := by simpa using h1
  have hq : (a * b).tdiv b = a := Int.mul_tdiv_cancel a h0
  obtain ⟨p, hp⟩ : ∃ p, p = a * b := ⟨_, rfl⟩
  rw [← hp] at h hq ⊢
  have hw : IntKind.i64.wrap (a * b) = p := by rw [← hp]; exact Go.IntWalk.i64_in p h
  have hd : IntKind.i64.wrap (p.tdiv b) = a := by rw [hq]; exact Go.IntWalk.i64_in a ha
  clear h1 hp h hq
  go_enter Tryd.func15, Tryd.ntmps15
  go_wp2_with fail
  go_ret2
  exact ⟨rfl, rfl⟩
theorem mul_out (a b : Int) (ha : In64 a) (hb : In64 b) (h0 : b ≠ 0) (h1 : b ≠ -1) (h : ¬ In64 (a * b)) (w : World) :
    Calls Tryd.prog 15 #[.int .i64 a, .int .i64 b] w fun e w' => e = .returned (.tuple #[.int .i64 0, .int .i64 9]) ∧ w = w' := by
  have g0 : (b == 0) = false := by simpa using h0
  have g1 : (b == -1) = false := by simpa using h1
  obtain ⟨p, hp, hp2, hp3⟩ : ∃ p, p = wrap64 (a * b) ∧ In64 p ∧ p.tdiv b ≠ a := ⟨_, rfl, (wrap_is _).elim fun _ h => h.2, prod_out a b hb h0 h⟩
  obtain ⟨q, hq, hq2⟩ : ∃ q, q = p.tdiv b ∧ In64 q := ⟨_, rfl, quo_64 p b hp2 h0 h1⟩
  have hw : IntKind.i64.wrap (a * b) = p := by rw [Go.IntWalk.i64_left, hp]
  have hd : IntKind.i64.wrap (p.tdiv b) = q := by rw [← hq]; exact Go.IntWalk.i64_in q hq2
  have g2 : (q == a) = false := by rw [hq]; simpa using hp3
  clear h1 hp h hq hp3 hq2
  go_enter Tryd.func15, Tryd.ntmps15
  go_wp2_with fail
  go_ret2
  exact ⟨rfl, rfl⟩
theorem mul_any (a b : Int) (ha : In64 a) (hb : In64 b) (w : World) :
    Calls Tryd.prog 15 #[.int .i64 a, .int .i64 b] w fun e w' => e = .returned (.tuple #[.int .i64 (capN (a * b)), .int .i64 (capE (a * b))]) ∧ w = w' := by
  by_cases h0 : b = 0
  · subst h0; rw [Int.mul_zero]; exact mul_zero a ha w
  by_cases h1 : b = -1
  · subst h1; rw [Int.mul_neg, Int.mul_one]; exact mul_one a ha w
  by_cases h : In64 (a * b)
  · rw [capN_in h, capE_in h]; exact mul_in a b ha hb h0 h1 h w
  · rw [capN_out h, capE_out h]; exact mul_out a b ha hb h0 h1 h w

theorem div_any (a b : Int) (ha : In64 a) (hb : In64 b) (w : World) :
    Calls Tryd.prog 10 #[.int .i64 a, .int .i64 b] w fun e w' => e = .returned (.tuple #[.int .i64 (divN a b), .int .i64 (divE a b)]) ∧ w = w' := by
  by_cases h0 : b = 0
  · subst h0
    go_enter Tryd.func10, Tryd.ntmps10
    go_wp2_with fail
    go_ret2
    exact ⟨by simp [divN, divE], rfl⟩
  have g0 : (b == 0) = false := by simpa using h0
  by_cases h1 : a = -9223372036854775808 ∧ b = -1
  · obtain ⟨rfl, rfl⟩ := h1
    go_enter Tryd.func10, Tryd.ntmps10
    go_wp2_with fail
    go_ret2
    exact ⟨by simp [divN, divE], rfl⟩
  obtain ⟨q, hq, hq2⟩ : ∃ q, q = a.tdiv b ∧ In64 q := ⟨_, rfl, quo_64' a b ha h0 h1⟩
  have hd : IntKind.i64.wrap (a.tdiv b) = q := by rw [← hq]; exact Go.IntWalk.i64_in q hq2
  have HN : Hid (divN a b = q) := Lib.hid (by rw [divN_else h0 h1, hq])
  have HE : Hid (divE a b = 0) := Lib.hid (divE_else h0 h1)
  by_cases h2 : a = -9223372036854775808
  · have h3 : b ≠ -1 := fun e => h1 ⟨h2, e⟩
    have g1 : (a == -9223372036854775808) = true := by simpa using h2
    have g2 : (b == -1) = false := by simpa using h3
    clear hq hq2 h1 h2 h3
    go_enter Tryd.func10, Tryd.ntmps10
    go_wp2_with fail
    go_ret2
    exact ⟨by rw [HN.out, HE.out]; rfl, rfl⟩
  · have g1 : (a == -9223372036854775808) = false := by simpa using h2
    clear hq hq2 h1 h2
    go_enter Tryd.func10, Tryd.ntmps10
    go_wp2_with fail
    go_ret2
    exact ⟨by rw [HN.out, HE.out]; rfl, rfl⟩

theorem mod_any (a b : Int) (ha : In64 a) (hb : In64 b) (w : World) :
    Calls Tryd.prog 11 #[.int .i64 a, .int .i64 b] w fun e w' => e = .returned (.tuple #[.int .i64 (modN a b), .int .i64 (modE b)]) ∧ w = w' := by
  by_cases h0 : b = 0
  · subst h0
    go_enter Tryd.func11, Tryd.ntmps11
    go_wp2_with fail
    go_ret2
    exact ⟨by simp [modN, modE], rfl⟩
  have g0 : (b == 0) = false := by simpa using h0
  have HN : Hid (modN a b = a.tmod b) := Lib.hid (by rw [modN, if_neg h0])
  have HE : Hid (modE b = 0) := Lib.hid (if_neg h0)
  go_enter Tryd.func11, Tryd.ntmps11
  go_wp2_with fail
  go_ret2
  exact ⟨by rw [HN.out, HE.out]; rfl, rfl⟩

theorem push_any (n d : Int) (hn : In64 n) (hd : In64 d) (w : World) :
    Calls Tryd.prog 12 #[.int .i64 n, .int .i64 d] w fun e w' => e = .returned (.tuple #[.int .i64 (pushN n d), .int .i64 (pushE n d)]) ∧ w = w' := by
  by_cases h : In64 (n * 10)
  · have HN : Hid (pushN n d = capN (n * 10 + d)) := Lib.hid (if_pos h)
    have HE : Hid (pushE n d = capE (n * 10 + d)) := Lib.hid (if_pos h)
    have e1 := capN_in h
    have e2 := capE_in h
    have c := mul_any n 10 hn (by decide)
    rw [e1, e2] at c
    clear e1 e2
    go_enter Tryd.func12, Tryd.ntmps12
    go_wp2_with (first | (go_at_call 15; refine (c _).mono ?_; rintro e w' ⟨rfl, rfl⟩) | (go_at_call 9; refine (add_any _ _ h hd _).mono ?_; rintro e w' ⟨rfl, rfl⟩))
    go_ret2
    exact ⟨by rw [HN.out, HE.out]; rfl, rfl⟩
  · have HN : Hid (pushN n d = 0) := Lib.hid (if_neg h)
    have HE : Hid (pushE n d = 9) := Lib.hid (if_neg h)
    have e1 := capN_out h
    have e2 := capE_out h
    have c := mul_any n 10 hn (by decide)
    rw [e1, e2] at c
    clear e1 e2
    go_enter Tryd.func12, Tryd.ntmps12
    go_wp2_with (go_at_call 15; refine (c _).mono ?_; rintro e w' ⟨rfl, rfl⟩)
    go_ret2
    exact ⟨by rw [HN.out, HE.out]; rfl, rfl⟩

theorem size_any (n : Int) (h : In64 n) (w : World) :
    Calls Tryd.prog 14 #[.int .i64 n] w fun e w' => e = .returned (.int .u64 (mag n)) ∧ w = w' := by
  unfold In64 at h
  by_cases g : n < 0
  · have HM : Hid (mag n = -(n + 1) + 1) := Lib.hid (by rw [mag_neg g]; omega)
    go_enter Tryd.func14, Tryd.ntmps14
    go_wp2_with fail
    go_ret
    exact ⟨by rw [HM.out]; rfl, rfl⟩
  · have HM : Hid (mag n = n) := Lib.hid (mag_pos (by omega))
    go_enter Tryd.func14, Tryd.ntmps14
    go_wp2_with fail
    go_ret
    exact ⟨by rw [HM.out]; rfl, rfl⟩
end Go.Proofs.YtdfgpaoehikdpaaDoor.Calc
