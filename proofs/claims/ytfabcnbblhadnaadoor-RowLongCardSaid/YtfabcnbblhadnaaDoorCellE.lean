/- Picked by program out of XCellE. -/
import Derived.Test.YtfabcnbblhadnaaDoorNums
import Derived.Lib.ValidLaws
import Derived.Test.YtfabcnbblhadnaaDoorCellR
namespace Go.Proofs.YtfabcnbblhadnaaDoor.Cell
open Go.RowKit Go.Proofs.YtfabcnbblhadnaaDoor.Nums
open Go.Lib (validD decodeN decodeL)
set_option linter.unusedVariables false
set_option maxRecDepth 100000
def noz (l : List UInt8) : Bool := l.all (fun c => c != 0)
def good (l : List UInt8) : Bool := validD l && noz l
/-- the byte at a place; 0 behind the end -/
def bt (l : List UInt8) (j : Nat) : Nat := (l.getD j 0).toNat
theorem bt_lt (l : List UInt8) (j : Nat) : bt l j < 256 := (l.getD j 0).toNat_lt
theorem good_err {l : List UInt8} (hne : l ≠ []) (h : decodeN l.length (bt l 0) (bt l 1) (bt l 2) (bt l 3) = (65533, 1)) : good l = false := by
  unfold good
  rw [Go.Lib.validD_step l hne, Go.Lib.decodeL_N]
  show ((if (decodeN l.length (bt l 0) (bt l 1) (bt l 2) (bt l 3)).1 = 65533 ∧ (decodeN l.length (bt l 0) (bt l 1) (bt l 2) (bt l 3)).2 = 1 then false else _) && noz l) = false
  rw [h, if_pos ⟨rfl, rfl⟩]; rfl
theorem good_ok {l : List UInt8} {r w : Nat} (hne : l ≠ []) (h : decodeN l.length (bt l 0) (bt l 1) (bt l 2) (bt l 3) = (r, w)) (hw : ¬ (r = 65533 ∧ w = 1)) (hz : noz (l.take w) = true) : good l = good (l.drop w) := by
  unfold good
  have hd : decodeL l = (r, w) := by rw [Go.Lib.decodeL_N]; exact h
  rw [Go.Lib.validD_step l hne, hd, if_neg hw]
  congr 1
  conv => lhs; rw [← List.take_append_drop w l]
  unfold noz at hz ⊢
  rw [List.all_append, hz, Bool.true_and]
theorem ne_of_len {l : List UInt8} (h : 0 < l.length) : l ≠ [] := fun e => by rw [e] at h; exact Nat.lt_irrefl _ h
theorem good_zero {l : List UInt8} (h : 0 < l.length) (h0 : bt l 0 = 0) : good l = false := by
  unfold good
  cases l with
  | nil => cases h
  | cons c l =>
    have e : c = 0 := UInt8.toNat_inj.mp h0
    rw [e]
    show (validD (0 :: l) && (((0 : UInt8) != 0) && noz l)) = false
    rw [show ((0 : UInt8) != 0) = false from rfl, Bool.false_and, Bool.and_false]
theorem noz_take : ∀ (l : List UInt8) (w : Nat), w ≤ l.length → (∀ j, j < w → bt l j ≠ 0) → noz (l.take w) = true
  | _, 0, _, _ => by rw [List.take_zero]; rfl
  | [], w + 1, h, _ => by cases h
  | c :: l, w + 1, h, g => by
    show ((c != 0) && noz (l.take w)) = true
    have h0 : c ≠ 0 := fun e => g 0 (Nat.succ_pos _) (by rw [e]; rfl)
    rw [noz_take l w (by simpa using h) (fun j hj => g (j + 1) (by omega)), Bool.and_true]
    simpa using h0
theorem good_one {l : List UInt8} (h : 0 < l.length) (a : 0 < bt l 0) (b : bt l 0 < 128) : good l = good (l.drop 1) := by
  refine good_ok (r := bt l 0) (ne_of_len h) (by unfold decodeN; rw [if_pos b]) (by omega) (noz_take l 1 h (fun j hj => ?_))
  obtain rfl : j = 0 := by omega
  omega
/-- no rune begins so -/
theorem good_lead {l : List UInt8} (h : 0 < l.length) (a : 128 ≤ bt l 0) (b : bt l 0 < 192 ∨ 248 ≤ bt l 0) : good l = false := by
  refine good_err (ne_of_len h) ?_
  unfold decodeN
  rw [if_neg (by omega), if_neg (by omega), if_neg (by omega), if_neg (by omega)]
/-- two bytes -/
theorem good_two_no {l : List UInt8} (h : 0 < l.length) (a : 192 ≤ bt l 0) (b : bt l 0 < 224) (c : l.length ≤ 1 ∨ bt l 1 < 128 ∨ 192 ≤ bt l 1 ∨ (bt l 0 - 192) * 64 + (bt l 1 - 128) < 128) : good l = false := by
  refine good_err (ne_of_len h) ?_
  have := bt_lt l 1
  unfold decodeN
  rw [if_neg (by omega)]
  by_cases g : bt l 0 / 32 = 6 ∧ (1 < l.length ∧ bt l 1 / 64 = 2)
  · rw [if_pos g, if_neg (by omega)]
  · rw [if_neg g, if_neg (by omega), if_neg (by omega)]
theorem good_two {l : List UInt8} (h : 1 < l.length) (a : 192 ≤ bt l 0) (b : bt l 0 < 224) (c1 : 128 ≤ bt l 1) (c2 : bt l 1 < 192) (d : 128 ≤ (bt l 0 - 192) * 64 + (bt l 1 - 128)) : good l = good (l.drop 2) := by
  refine good_ok (r := bt l 0 % 32 * 64 + bt l 1 % 64) (ne_of_len (by omega)) ?_ (by omega) (noz_take l 2 (by omega) (fun j hj => by
    obtain rfl | rfl : j = 0 ∨ j = 1 := by omega
    · omega
    · omega))
  unfold decodeN
  rw [if_neg (by omega), if_pos (by omega), if_pos (by omega)]
/-- three bytes -/
theorem good_three_no {l : List UInt8} (h : 0 < l.length) (a : 224 ≤ bt l 0) (b : bt l 0 < 240) (c : l.length ≤ 2 ∨ bt l 1 < 128 ∨ 192 ≤ bt l 1 ∨ bt l 2 < 128 ∨ 192 ≤ bt l 2 ∨ ((bt l 0 - 224) * 64 + (bt l 1 - 128)) * 64 + (bt l 2 - 128) < 2048 ∨ (55296 ≤ ((bt l 0 - 224) * 64 + (bt l 1 - 128)) * 64 + (bt l 2 - 128) ∧ ((bt l 0 - 224) * 64 + (bt l 1 - 128)) * 64 + (bt l 2 - 128) < 57344)) : good l = false := by
  refine good_err (ne_of_len h) ?_
  have := bt_lt l 1
  have := bt_lt l 2
  unfold decodeN
  rw [if_neg (by omega), if_neg (by omega)]
  by_cases g : bt l 0 / 16 = 14 ∧ (1 < l.length ∧ bt l 1 / 64 = 2) ∧ (2 < l.length ∧ bt l 2 / 64 = 2)
  · rw [if_pos g, if_neg (by omega)]
  · rw [if_neg g, if_neg (by omega)]
theorem good_three {l : List UInt8} (h : 2 < l.length) (a : 224 ≤ bt l 0) (b : bt l 0 < 240) (c1 : 128 ≤ bt l 1) (c2 : bt l 1 < 192) (c3 : 128 ≤ bt l 2) (c4 : bt l 2 < 192) (d : 2048 ≤ ((bt l 0 - 224) * 64 + (bt l 1 - 128)) * 64 + (bt l 2 - 128)) (e : ((bt l 0 - 224) * 64 + (bt l 1 - 128)) * 64 + (bt l 2 - 128) < 55296 ∨ 57344 ≤ ((bt l 0 - 224) * 64 + (bt l 1 - 128)) * 64 + (bt l 2 - 128)) : good l = good (l.drop 3) := by
  refine good_ok (r := bt l 0 % 16 * 4096 + bt l 1 % 64 * 64 + bt l 2 % 64) (ne_of_len (by omega)) ?_ (by omega) (noz_take l 3 (by omega) (fun j hj => by
    obtain rfl | rfl | rfl : j = 0 ∨ j = 1 ∨ j = 2 := by omega
    · omega
    · omega
    · omega))
  unfold decodeN
  rw [if_neg (by omega), if_neg (by omega), if_pos (by omega), if_pos (by omega)]
/-- four bytes -/
theorem good_four_no {l : List UInt8} (h : 0 < l.length) (a : 240 ≤ bt l 0) (b : bt l 0 < 248) (c : l.length ≤ 3 ∨ bt l 1 < 128 ∨ 192 ≤ bt l 1 ∨ bt l 2 < 128 ∨ 192 ≤ bt l 2 ∨ bt l 3 < 128 ∨ 192 ≤ bt l 3 ∨ (((bt l 0 - 240) * 64 + (bt l 1 - 128)) * 64 + (bt l 2 - 128)) * 64 + (bt l 3 - 128) < 65536 ∨ 1114111 < (((bt l 0 - 240) * 64 + (bt l 1 - 128)) * 64 + (bt l 2 - 128)) * 64 + (bt l 3 - 128)) : good l = false := by
  refine good_err (ne_of_len h) ?_
  have := bt_lt l 1
  have := bt_lt l 2
  have := bt_lt l 3
  unfold decodeN
  rw [if_neg (by omega), if_neg (by omega), if_neg (by omega)]
  by_cases g : bt l 0 / 8 = 30 ∧ (1 < l.length ∧ bt l 1 / 64 = 2) ∧ (2 < l.length ∧ bt l 2 / 64 = 2) ∧ (3 < l.length ∧ bt l 3 / 64 = 2)
  · rw [if_pos g, if_neg (by omega)]
  · rw [if_neg g]
theorem good_four {l : List UInt8} (h : 3 < l.length) (a : 240 ≤ bt l 0) (b : bt l 0 < 248) (c1 : 128 ≤ bt l 1) (c2 : bt l 1 < 192) (c3 : 128 ≤ bt l 2) (c4 : bt l 2 < 192) (c5 : 128 ≤ bt l 3) (c6 : bt l 3 < 192) (d : 65536 ≤ (((bt l 0 - 240) * 64 + (bt l 1 - 128)) * 64 + (bt l 2 - 128)) * 64 + (bt l 3 - 128)) (e : (((bt l 0 - 240) * 64 + (bt l 1 - 128)) * 64 + (bt l 2 - 128)) * 64 + (bt l 3 - 128) ≤ 1114111) : good l = good (l.drop 4) := by
  refine good_ok (r := bt l 0 % 8 * 262144 + bt l 1 % 64 * 4096 + bt l 2 % 64 * 64 + bt l 3 % 64) (ne_of_len (by omega)) ?_ (by omega) (noz_take l 4 (by omega) (fun j hj => by
    obtain rfl | rfl | rfl | rfl : j = 0 ∨ j = 1 ∨ j = 2 ∨ j = 3 := by omega
    · omega
    · omega
    · omega
    · omega))
  unfold decodeN
  rw [if_neg (by omega), if_neg (by omega), if_neg (by omega), if_pos (by omega), if_pos (by omega)]
end Go.Proofs.YtfabcnbblhadnaaDoor.Cell
