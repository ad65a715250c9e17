/- The order of opened values is one. -/
import Derived.Test.YtdfgpaoehikdpacDoorCellX
namespace Go.Proofs.YtdfgpaoehikdpacDoor.Cell
open Go.RowKit Go.Proofs.YtdfgpaoehikdpacDoor.Nums
open Go.Lib (compareBytes)
set_option linter.unusedVariables false
set_option maxRecDepth 100000

theorem u8_lt {a b : UInt8} : a < b ↔ a.toNat < b.toNat := UInt8.lt_iff_toNat_lt
theorem cb_range : ∀ a b : List UInt8, compareBytes a b = -1 ∨ compareBytes a b = 0 ∨ compareBytes a b = 1
  | [], [] => .inr (.inl rfl)
  | [], _ :: _ => .inl rfl
  | _ :: _, [] => .inr (.inr rfl)
  | a :: xs, b :: ys => by
    show (if a < b then (-1 : Int) else if b < a then 1 else compareBytes xs ys) = -1 ∨ (if a < b then (-1 : Int) else if b < a then 1 else compareBytes xs ys) = 0 ∨ (if a < b then (-1 : Int) else if b < a then 1 else compareBytes xs ys) = 1
    by_cases h : a < b
    · rw [if_pos h]; exact .inl rfl
    rw [if_neg h]
    by_cases g : b < a
    · rw [if_pos g]; exact .inr (.inr rfl)
    rw [if_neg g]; exact cb_range xs ys
theorem cb_flip : ∀ a b : List UInt8, compareBytes b a = - compareBytes a b
  | [], [] => rfl
  | [], _ :: _ => rfl
  | _ :: _, [] => rfl
  | a :: xs, b :: ys => by
    show (if b < a then (-1 : Int) else if a < b then 1 else compareBytes ys xs) = - (if a < b then (-1 : Int) else if b < a then 1 else compareBytes xs ys)
    by_cases h : a < b
    · have g : ¬ b < a := by rw [u8_lt] at *; omega
      rw [if_neg g, if_pos h, if_pos h]; rfl
    by_cases g : b < a
    · rw [if_pos g, if_neg h, if_pos g]
    rw [if_neg g, if_neg h, if_neg h, if_neg g]; exact cb_flip xs ys
theorem cb_zero : ∀ a b : List UInt8, compareBytes a b = 0 → a = b
  | [], [], _ => rfl
  | [], _ :: _, h => by cases h
  | _ :: _, [], h => by cases h
  | a :: xs, b :: ys, h => by
    have h' : (if a < b then (-1 : Int) else if b < a then 1 else compareBytes xs ys) = 0 := h
    by_cases e : a < b
    · rw [if_pos e] at h'; cases h'
    rw [if_neg e] at h'
    by_cases g : b < a
    · rw [if_pos g] at h'; cases h'
    rw [if_neg g] at h'
    have hab : a = b := UInt8.toNat_inj.mp (by rw [u8_lt] at *; omega)
    rw [hab, cb_zero xs ys h']
theorem cb_less : ∀ a b : List UInt8, Go.Op.bytesLess a b = decide (compareBytes a b < 0)
  | [], [] => rfl
  | [], _ :: _ => rfl
  | _ :: _, [] => rfl
  | a :: xs, b :: ys => by
    show (decide (a < b) || (a == b && Go.Op.bytesLess xs ys)) = decide ((if a < b then (-1 : Int) else if b < a then 1 else compareBytes xs ys) < 0)
    by_cases h : a < b
    · rw [if_pos h, decide_eq_true h]; rfl
    rw [if_neg h, decide_eq_false h, Bool.false_or]
    by_cases g : b < a
    · have e : (a == b) = false := by
        rw [beq_eq_false_iff_ne]; intro e; rw [e] at g h; exact h g
      rw [if_pos g, e]; rfl
    have hab : a = b := UInt8.toNat_inj.mp (by rw [u8_lt] at *; omega)
    rw [if_neg g, hab, beq_self_eq_true, Bool.true_and, cb_less xs ys]
theorem cb_trans : ∀ a b c : List UInt8, compareBytes a b < 0 → compareBytes b c < 0 → compareBytes a c < 0
  | [], [], _, h, _ => by cases h
  | [], _ :: _, [], _, g => by cases g
  | [], _ :: _, _ :: _, _, _ => by show (-1 : Int) < 0; decide
  | _ :: _, [], _, h, _ => by cases h
  | _ :: _, _ :: _, [], _, g => by cases g
  | a :: xs, b :: ys, c :: zs, h, g => by
    have h' : (if a < b then (-1 : Int) else if b < a then 1 else compareBytes xs ys) < 0 := h
    have g' : (if b < c then (-1 : Int) else if c < b then 1 else compareBytes ys zs) < 0 := g
    show (if a < c then (-1 : Int) else if c < a then 1 else compareBytes xs zs) < 0
    by_cases ac : a < c
    · rw [if_pos ac]; decide
    rw [if_neg ac]
    by_cases ab : a < b
    · by_cases bc : b < c
      · exfalso; rw [u8_lt] at *; omega
      rw [if_neg bc] at g'
      by_cases cb : c < b
      · rw [if_pos cb] at g'; cases g'
      exfalso; rw [u8_lt] at *; omega
    rw [if_neg ab] at h'
    by_cases ba : b < a
    · rw [if_pos ba] at h'; cases h'
    rw [if_neg ba] at h'
    by_cases bc : b < c
    · exfalso; rw [u8_lt] at *; omega
    rw [if_neg bc] at g'
    by_cases cb : c < b
    · rw [if_pos cb] at g'; cases g'
    rw [if_neg cb] at g'
    have ca : ¬ c < a := by rw [u8_lt] at *; omega
    rw [if_neg ca]; exact cb_trans xs ys zs h' g'

theorem ci_flip (x y : Int) : cmpI y x = - cmpI x y := by
  unfold cmpI; by_cases h : x < y
  · rw [if_pos h, if_neg (by omega), if_pos h]; rfl
  by_cases g : y < x
  · rw [if_pos g, if_neg h, if_pos g]
  rw [if_neg g, if_neg h, if_neg h, if_neg g]; rfl
theorem ci_range (x y : Int) : cmpI x y = -1 ∨ cmpI x y = 0 ∨ cmpI x y = 1 := by
  unfold cmpI; by_cases h : x < y
  · rw [if_pos h]; exact .inl rfl
  by_cases g : y < x
  · rw [if_neg h, if_pos g]; exact .inr (.inr rfl)
  rw [if_neg h, if_neg g]; exact .inr (.inl rfl)
theorem ci_lt (x y : Int) : cmpI x y < 0 ↔ x < y := by
  unfold cmpI; by_cases h : x < y
  · rw [if_pos h]; exact ⟨fun _ => h, fun _ => by decide⟩
  by_cases g : y < x
  · rw [if_neg h, if_pos g]; exact ⟨fun e => (by cases e), fun e => absurd e h⟩
  rw [if_neg h, if_neg g]; exact ⟨fun e => (by cases e), fun e => absurd e h⟩
theorem ci_zero (x y : Int) (e : cmpI x y = 0) : x = y := by
  have h := ci_lt x y
  have g := ci_lt y x
  rw [ci_flip x y, e] at g; rw [e] at h
  have : ¬ x < y := fun k => by have := h.mpr k; omega
  have : ¬ y < x := fun k => by have := g.mpr k; omega
  omega
/-- a value opened is of a kind -/
def kindO : OV → Bool
  | .odd _ _ _ _ => false
  | _ => true
theorem kind_right {k i : Int} {s : ByteArray} {b : Bool} (h : RightV k i s b) : kindO (openV k i s b) = true := by
  rcases h with ⟨rfl, _⟩ | ⟨rfl, _⟩ | ⟨rfl, _⟩ | ⟨rfl, _⟩ <;> rfl
theorem order_far {x y : OV} (h : rankO x ≠ rankO y) : orderO x y = cmpI (rankO x) (rankO y) := if_neg h
theorem order_flip (x y : OV) : orderO y x = - orderO x y := by
  by_cases h : rankO x = rankO y
  · cases x <;> cases y <;> first | (exfalso; simp [rankO] at h; done) | skip
    · rfl
    · rename_i a b; cases a <;> cases b <;> rfl
    · exact ci_flip _ _
    · exact cb_flip _ _
    · rfl
  · rw [order_far h, order_far (Ne.symm h)]; exact ci_flip _ _
theorem order_range (x y : OV) : orderO x y = -1 ∨ orderO x y = 0 ∨ orderO x y = 1 := by
  by_cases h : rankO x = rankO y
  · cases x <;> cases y <;> first | (exfalso; simp [rankO] at h; done) | skip
    · exact .inr (.inl rfl)
    · rename_i a b; cases a <;> cases b <;> first | exact .inr (.inl rfl) | exact .inl rfl | exact .inr (.inr rfl)
    · exact ci_range _ _
    · exact cb_range _ _
    · exact .inr (.inl rfl)
  · rw [order_far h]; exact ci_range _ _
theorem order_self (x : OV) : orderO x x = 0 := by have := order_flip x x; omega
theorem order_zero {x y : OV} (hk : kindO x = true) (e : orderO x y = 0) : x = y := by
  by_cases h : rankO x = rankO y
  · cases x <;> cases y <;> first | (exfalso; simp [rankO] at h; done) | skip
    · rfl
    · rename_i a b; cases a <;> cases b <;> first | rfl | (exfalso; revert e; decide)
    · rw [ci_zero _ _ e]
    · rename_i a b; rw [show a = b from ByteArray.ext (Array.ext' (cb_zero _ _ e))]
    · cases hk
  · rw [order_far h] at e; exact absurd (ci_zero _ _ e) h
theorem order_le {x y : OV} (e : orderO x y < 0) : rankO x ≤ rankO y := by
  by_cases h : rankO x = rankO y
  · omega
  rw [order_far h] at e
  have := (ci_lt _ _).mp e
  omega
theorem order_trans {x y z : OV} (e : orderO x y < 0) (g : orderO y z < 0) : orderO x z < 0 := by
  have h1 := order_le e
  have h2 := order_le g
  by_cases h : rankO x = rankO z
  · have hxy : rankO x = rankO y := by omega
    have hyz : rankO y = rankO z := by omega
    clear h1 h2 h
    cases x <;> cases y <;> first | (exfalso; simp [rankO] at hxy; done) | skip
    all_goals cases z <;> first | (exfalso; simp [rankO] at hyz; done) | skip
    · exact e
    · rename_i a b c; cases a <;> cases b <;> cases c <;> first | exact e | exact g | (exfalso; revert e; decide) | (exfalso; revert g; decide)
    · exact (ci_lt _ _).mpr (by have := (ci_lt _ _).mp e; have := (ci_lt _ _).mp g; omega)
    · exact cb_trans _ _ _ e g
    · exact e
  · rw [order_far h]; exact (ci_lt _ _).mpr (by omega)
end Go.Proofs.YtdfgpaoehikdpacDoor.Cell
