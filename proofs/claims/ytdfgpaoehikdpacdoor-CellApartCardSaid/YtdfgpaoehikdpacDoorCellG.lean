/- Two right values have one literal just if they are of one kind, and the same. -/
import Derived.Test.YtdfgpaoehikdpacDoorCellN2
import Derived.Test.YtdfgpaoehikdpacDoorCellQ
namespace Go.Proofs.YtdfgpaoehikdpacDoor.Cell
open Go.RowKit Go.Proofs.YtdfgpaoehikdpacDoor.Nums
open Go.Lib (compareBytes itoa decDigits)
set_option linter.unusedVariables false
set_option maxRecDepth 100000

def litL (k i : Int) (s : ByteArray) (b : Bool) : List UInt8 := if k = 0 then [78, 85, 76, 76] else if k = 1 then itoa i else if k = 2 then litT s else if b then [84, 82, 85, 69] else [70, 65, 76, 83, 69]
theorem litV_sz (k i : Int) (s : ByteArray) (b : Bool) : litV k i s b = sz (litL k i s b) := by
  unfold litV litL
  by_cases h0 : k = 0
  · rw [if_pos h0, if_pos h0]
  by_cases h1 : k = 1
  · rw [if_neg h0, if_neg h0, if_pos h1, if_pos h1]
  by_cases h2 : k = 2
  · rw [if_neg h0, if_neg h0, if_neg h1, if_neg h1, if_pos h2, if_pos h2]
  rw [if_neg h0, if_neg h0, if_neg h1, if_neg h1, if_neg h2, if_neg h2]
  cases b <;> rfl
theorem sz_toList (l : List UInt8) : (sz l).toList = l := by rw [ByteArray.toList_eq]; rfl
theorem itoa_head (n : Int) : ∃ c l, itoa n = c :: l ∧ (c = 45 ∨ isDig c = true) := by
  unfold itoa
  by_cases h : n < 0
  · rw [if_pos h]; exact ⟨_, _, rfl, .inl rfl⟩
  · rw [if_neg h]
    have hn := dec_ne n.toNat
    have ha := dec_all n.toNat
    cases e : decDigits n.toNat with
    | nil => exact absurd e hn
    | cons c l =>
      rw [e] at ha
      exact ⟨c, l, rfl, .inr (by simp only [List.all_cons, Bool.and_eq_true] at ha; exact ha.1)⟩
theorem itoa_inj {m n : Int} (e : itoa m = itoa n) : m = n := by
  have key : ∀ u v : Nat, decDigits u = decDigits v → u = v := fun u v h => by
    have := dec_val u; rw [h, dec_val v] at this; omega
  have off : ∀ (l : List UInt8) (u : Nat), 45 :: l = decDigits u → False := fun l u h => by
    have ha := dec_all u; rw [← h] at ha; simp only [List.all_cons, Bool.and_eq_true] at ha
    exact absurd ha.1 (by decide)
  unfold itoa at e
  by_cases hm : m < 0 <;> by_cases hn : n < 0
  · rw [if_pos hm, if_pos hn] at e
    have := key _ _ (List.cons.inj e).2
    omega
  · rw [if_pos hm, if_neg hn] at e; exact (off _ _ e).elim
  · rw [if_neg hm, if_pos hn] at e; exact (off _ _ e.symm).elim
  · rw [if_neg hm, if_neg hn] at e
    have := key _ _ e
    omega
def cl (c : UInt8) : Int := if c = 78 then 0 else if c = 84 ∨ c = 70 then 3 else if c = 39 then 2 else 1
theorem cl_num {c : UInt8} (h : c = 45 ∨ isDig c = true) : cl c = 1 := by
  rcases h with rfl | h
  · rfl
  · have hb := dig_bd h
    unfold cl
    rw [if_neg (by rintro rfl; revert hb; decide), if_neg (by rintro (rfl | rfl) <;> (revert hb; decide)), if_neg (by rintro rfl; revert hb; decide)]
theorem lit_head {k i : Int} {s : ByteArray} {b : Bool} (h : RightV k i s b) : ∃ c l, litL k i s b = c :: l ∧ cl c = k := by
  rcases h with ⟨rfl, rfl, rfl, rfl⟩ | ⟨rfl, rfl, rfl⟩ | ⟨rfl, rfl, rfl, hs⟩ | ⟨rfl, rfl, rfl⟩
  · exact ⟨_, _, rfl, rfl⟩
  · obtain ⟨c, l, e, hc⟩ := itoa_head i
    exact ⟨c, l, e, cl_num hc⟩
  · exact ⟨_, _, rfl, rfl⟩
  · cases b
    · exact ⟨_, _, rfl, rfl⟩
    · exact ⟨_, _, rfl, rfl⟩
theorem litT_inj {s t : ByteArray} (e : litT s = litT t) : s = t := by
  rw [litT_dbl, litT_dbl] at e
  have h := List.append_cancel_right (List.cons.inj e).2
  exact ByteArray.ext (Array.ext' (dbl_inj _ _ h))
theorem lit_same {k1 i1 : Int} {s1 : ByteArray} {b1 : Bool} {k2 i2 : Int} {s2 : ByteArray} {b2 : Bool} (h1 : RightV k1 i1 s1 b1) (h2 : RightV k2 i2 s2 b2) :
    (litL k1 i1 s1 b1 == litL k2 i2 s2 b2) = (decide (k1 = k2) && (orderO (openV k1 i1 s1 b1) (openV k2 i2 s2 b2) == 0)) := by
  by_cases hk : k1 = k2
  · subst hk
    rw [decide_eq_true rfl, Bool.true_and]
    rw [Bool.eq_iff_iff, beq_iff_eq, beq_iff_eq]
    constructor
    · intro e
      rcases h1 with ⟨rfl, rfl, rfl, rfl⟩ | ⟨rfl, rfl, rfl⟩ | ⟨rfl, rfl, rfl, g1⟩ | ⟨rfl, rfl, rfl⟩
      · rfl
      · rw [show openV 1 i1 ⟨#[]⟩ false = openV 1 i2 s2 b2 from congrArg OV.int (itoa_inj e)]; exact order_self _
      · rw [show openV 2 0 s1 false = openV 2 i2 s2 b2 from congrArg OV.str (litT_inj e)]; exact order_self _
      · rw [show openV 3 0 ⟨#[]⟩ b1 = openV 3 i2 s2 b2 from congrArg OV.bool (by
          have e' : (if b1 then ([84, 82, 85, 69] : List UInt8) else [70, 65, 76, 83, 69]) = (if b2 then [84, 82, 85, 69] else [70, 65, 76, 83, 69]) := e
          cases b1 <;> cases b2 <;> first | rfl | (exfalso; revert e'; decide))]; exact order_self _
    · intro e
      have e' := order_zero (kind_right h1) e
      rcases h1 with ⟨rfl, rfl, rfl, rfl⟩ | ⟨rfl, rfl, rfl⟩ | ⟨rfl, rfl, rfl, g1⟩ | ⟨rfl, rfl, rfl⟩
      · rfl
      · have e2 : OV.int i1 = OV.int i2 := e'
        cases e2; rfl
      · have e2 : OV.str s1 = OV.str s2 := e'
        cases e2; rfl
      · have e2 : OV.bool b1 = OV.bool b2 := e'
        cases e2; rfl
  · rw [decide_eq_false hk, Bool.false_and, beq_eq_false_iff_ne]
    intro e
    obtain ⟨c, l, e1, g1⟩ := lit_head h1
    obtain ⟨d, m, e2, g2⟩ := lit_head h2
    rw [e1, e2] at e
    rw [(List.cons.inj e).1] at g1
    exact hk (g1.symm.trans g2)
end Go.Proofs.YtdfgpaoehikdpacDoor.Cell
