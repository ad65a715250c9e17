/- Each quote twice: what replacing gives, by a plain list function. -/
import Derived.Test.YtdfgpaoehikdpabDoorCellX
namespace Go.Proofs.YtdfgpaoehikdpabDoor.Cell
open Go.RowKit Go.Proofs.YtdfgpaoehikdpabDoor.Nums
open Go.Lib (index count countFrom replaceK replaceAll replace replaceNum)
set_option linter.unusedVariables false
set_option maxRecDepth 100000

def dbl : List UInt8 → List UInt8
  | [] => []
  | c :: l => if c = 39 then 39 :: 39 :: dbl l else c :: dbl l
theorem idx_hit (l : List UInt8) : index (39 :: l) [39] = 0 := rfl
theorem pre_no {c : UInt8} (h : c ≠ 39) (l : List UInt8) : ([39] : List UInt8).isPrefixOf (c :: l) = false := by
  have e : ((39 : UInt8) == c) = false := by rw [beq_eq_false_iff_ne]; exact fun e => h e.symm
  show ((39 : UInt8) == c && true) = false
  rw [e]; rfl
theorem idx_miss {c : UInt8} (h : c ≠ 39) (l : List UInt8) : index (c :: l) [39] = if index l [39] == -1 then -1 else index l [39] + 1 := by
  show (if ([39] : List UInt8).isPrefixOf (c :: l) = true then (0 : Int) else if index l [39] == -1 then -1 else index l [39] + 1) = _
  rw [pre_no h]; rfl
theorem rep_step {c : UInt8} (h : c ≠ 39) (l : List UInt8) : ∀ k, replaceK [39] [39, 39] k (c :: l) = c :: replaceK [39] [39, 39] k l
  | 0 => rfl
  | k + 1 => by
    by_cases hm : index l [39] = -1
    · have e1 : index (c :: l) [39] = -1 := by rw [idx_miss h, hm]; rfl
      rw [replaceK, replaceK, e1, hm]; rfl
    · have hge := Go.Lib.index_ge l [39]
      obtain ⟨i, hi⟩ : ∃ i : Nat, index l [39] = i := ⟨(index l [39]).toNat, by omega⟩
      have e1 : index (c :: l) [39] = ((i + 1 : Nat) : Int) := by
        rw [idx_miss h, hi]
        have : (((i : Nat) : Int) == -1) = false := by rw [beq_eq_false_iff_ne]; omega
        rw [this]; rfl
      rw [Go.Lib.replaceK_hit _ _ k _ (i + 1) e1, Go.Lib.replaceK_hit _ _ k _ i hi]
      rfl
theorem rep_hit (l : List UInt8) (k : Nat) : replaceK [39] [39, 39] (k + 1) (39 :: l) = 39 :: 39 :: replaceK [39] [39, 39] k l := by
  rw [Go.Lib.replaceK_hit _ _ k _ 0 (idx_hit l)]; rfl
theorem count_one : ∀ l : List UInt8, count l [39] = l.count 39
  | [] => rfl
  | c :: l => by
    by_cases h : c = 39
    · subst h
      rw [Go.Lib.count_hit (i := 0) (by simp) (idx_hit l), List.count_cons_self]
      show 1 + count l [39] = _
      rw [count_one l]; omega
    · rw [List.count_cons_of_ne (fun e => h e), ← count_one l]
      by_cases hm : index l [39] = -1
      · rw [Go.Lib.count_miss hm, Go.Lib.count_miss (by rw [idx_miss h, hm]; rfl)]
      · have hge := Go.Lib.index_ge l [39]
        obtain ⟨i, hi⟩ : ∃ i : Nat, index l [39] = i := ⟨(index l [39]).toNat, by omega⟩
        have e1 : index (c :: l) [39] = ((i + 1 : Nat) : Int) := by
          rw [idx_miss h, hi]
          have : (((i : Nat) : Int) == -1) = false := by rw [beq_eq_false_iff_ne]; omega
          rw [this]; rfl
        rw [Go.Lib.count_hit (by simp) e1, Go.Lib.count_hit (by simp) hi]
        rfl
theorem rep_dbl : ∀ (l : List UInt8) (k : Nat), l.count 39 ≤ k → replaceK [39] [39, 39] k l = dbl l
  | [], 0, _ => rfl
  | [], k + 1, _ => rfl
  | c :: l, k, hk => by
    by_cases h : c = 39
    · subst h
      rw [List.count_cons_self] at hk
      obtain ⟨k', rfl⟩ : ∃ k', k = k' + 1 := ⟨k - 1, by omega⟩
      rw [rep_hit, rep_dbl l k' (by omega)]; rfl
    · rw [List.count_cons_of_ne (fun e => h e)] at hk
      rw [rep_step h, rep_dbl l k hk]
      show _ = (if c = 39 then 39 :: 39 :: dbl l else c :: dbl l)
      rw [if_neg h]
theorem all_dbl (l : List UInt8) : replaceAll l [39] [39, 39] = dbl l := by
  show replaceK [39] [39, 39] (replaceNum l [39] (-1)) l = dbl l
  refine rep_dbl l _ ?_
  show l.count 39 ≤ (if (-1 : Int) < 0 ∨ (count l [39] : Int) < -1 then count l [39] else _)
  rw [if_pos (.inl (by decide)), count_one]
  exact Nat.le_refl _
theorem dbl_len : ∀ l : List UInt8, (dbl l).length = l.length + l.count 39
  | [] => rfl
  | c :: l => by
    by_cases h : c = 39
    · subst h
      show (39 :: 39 :: dbl l).length = _
      rw [List.count_cons_self, List.length_cons, List.length_cons, dbl_len l, List.length_cons]; omega
    · show (if c = 39 then 39 :: 39 :: dbl l else c :: dbl l).length = _
      rw [if_neg h, List.length_cons, dbl_len l, List.length_cons, List.count_cons_of_ne (fun e => h e)]; omega
theorem dbl_app : ∀ a b : List UInt8, dbl (a ++ b) = dbl a ++ dbl b
  | [], _ => rfl
  | c :: a, b => by
    show (if c = 39 then 39 :: 39 :: dbl (a ++ b) else c :: dbl (a ++ b)) = (if c = 39 then 39 :: 39 :: dbl a else c :: dbl a) ++ dbl b
    rw [dbl_app a b]; split <;> rfl
/-- no two texts are quoted alike -/
theorem dbl_inj : ∀ a b : List UInt8, dbl a = dbl b → a = b
  | [], [], _ => rfl
  | [], c :: b, h => by
    have h' : [] = (if c = 39 then 39 :: 39 :: dbl b else c :: dbl b) := h
    split at h' <;> cases h'
  | c :: a, [], h => by
    have h' : (if c = 39 then 39 :: 39 :: dbl a else c :: dbl a) = [] := h
    split at h' <;> cases h'
  | c :: a, d :: b, h => by
    have h' : (if c = 39 then 39 :: 39 :: dbl a else c :: dbl a) = (if d = 39 then 39 :: 39 :: dbl b else d :: dbl b) := h
    by_cases hc : c = 39 <;> by_cases hd : d = 39
    · rw [if_pos hc, if_pos hd] at h'
      rw [hc, hd, dbl_inj a b (by simpa using h')]
    · rw [if_pos hc, if_neg hd] at h'
      exact absurd (List.cons.inj h').1.symm hd
    · rw [if_neg hc, if_pos hd] at h'
      exact absurd (List.cons.inj h').1 hc
    · rw [if_neg hc, if_neg hd] at h'
      have e := List.cons.inj h'
      rw [e.1, dbl_inj a b e.2]
theorem litT_dbl (s : ByteArray) : litT s = 39 :: (dbl s.data.toList ++ [39]) := by unfold litT; rw [all_dbl]
theorem lit_bounds (s : ByteArray) (hs : s.size ≤ 60) : Go.Lib.countB s ⟨#[39]⟩ ≤ 60 ∧ (litT s).length ≤ 200 := by
  have e : s.data.toList.length = s.size := Array.length_toList
  have h1 : s.data.toList.count 39 ≤ s.data.toList.length := List.count_le_length
  constructor
  · show count s.data.toList [39] ≤ 60
    rw [count_one]; omega
  · rw [litT_dbl, List.length_cons, List.length_append, dbl_len]
    simp only [List.length_cons, List.length_nil]
    omega
end Go.Proofs.YtdfgpaoehikdpabDoor.Cell
