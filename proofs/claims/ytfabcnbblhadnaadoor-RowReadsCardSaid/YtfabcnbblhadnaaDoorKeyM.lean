/- What the bytes of a row are read back as. -/
import Derived.Test.YtfabcnbblhadnaaDoorKeyD
import Derived.Test.YtfabcnbblhadnaaDoorKeyOrd
namespace Go.Proofs.YtfabcnbblhadnaaDoor.Mem
open Go.RowKit Go.Proofs.YtfabcnbblhadnaaDoor.Nums
open Go.Proofs.YtfabcnbblhadnaaDoor.Cell (U8 noz)
set_option linter.unusedVariables false
set_option linter.unusedSimpArgs false
set_option maxRecDepth 100000
theorem beN_acc (l : List UInt8) : ∀ a : Nat, l.foldl (fun a b => a * 256 + b.toNat) a = a * 256 ^ l.length + beN l := by
  induction l with
  | nil => intro a; simp [beN]
  | cons b l ih =>
    intro a
    unfold beN
    rw [List.foldl_cons, List.foldl_cons, ih, ih, List.length_cons, Nat.pow_succ]
    rw [Nat.zero_mul, Nat.zero_add, Nat.add_mul, Nat.mul_assoc, Nat.mul_comm 256, Nat.add_assoc]
theorem beN_beR : ∀ (n U : Nat), U < 256 ^ n → beN (beR n U) = U
  | 0, U, h => by
    have : U = 0 := by simpa using h
    subst this
    rfl
  | n + 1, U, h => by
    have hp : 0 < 256 ^ n := Nat.pow_pos (by omega)
    have hd : U / 256 ^ n < 256 := by
      rw [Nat.div_lt_iff_lt_mul hp, Nat.mul_comm, ← Nat.pow_succ]
      exact h
    show (UInt8.ofNat (U / 256 ^ n) :: beR n (U % 256 ^ n)).foldl _ 0 = U
    rw [List.foldl_cons, beN_acc, beN_beR n _ (Nat.mod_lt _ hp), beR_len, UInt8.toNat_ofNat', Nat.zero_mul, Nat.zero_add, Nat.mod_eq_of_lt (show U / 256 ^ n < 2 ^ 8 from hd)]
    rw [Nat.mul_comm]
    exact Nat.div_add_mod U (256 ^ n)
theorem zAt_text (x r : List UInt8) (h : noz x = true) : zAt (x ++ 0 :: r) = x.length := by
  unfold zAt
  induction x with
  | nil => rfl
  | cons a x ih =>
    unfold noz at h ih
    rw [List.all_cons, Bool.and_eq_true] at h
    rw [List.cons_append, List.takeWhile_cons, h.1, if_pos rfl, List.length_cons, List.length_cons, ih h.2]
theorem str_data (s : ByteArray) : str s.data.toList = s := by
  unfold str
  apply ByteArray.ext
  simp
theorem first_back {v : V} (h : v.right = true) (hi : Nums.In64 v.i) (r : List UInt8) : fFirst (v.bytes ++ r) = some (v, r) := by
  rcases right_cases h hi with e | ⟨b, e⟩ | ⟨i, ii, e⟩ | ⟨s, e, hz⟩
  · subst e
    rfl
  · subst e
    cases b <;> rfl
  · subst e
    show fMark 3 (beU (turned i) ++ r) = _
    show fNum (beU (turned i) ++ r) = _
    unfold fNum
    have hl : (beU (turned i) ++ r).length = 8 + r.length := by rw [List.length_append, beU_len]
    have ht : (beU (turned i) ++ r).take 8 = beU (turned i) := by rw [List.take_append_of_le_length (by rw [beU_len]; omega), List.take_of_length_le (by rw [beU_len]; omega)]
    have hd : (beU (turned i) ++ r).drop 8 = r := by
      have := List.drop_left' (l₁ := beU (turned i)) (l₂ := r) (i := 8) (beU_len _)
      exact this
    have hU : turned i < 256 ^ 8 := by
      have e : (256 : Nat) ^ 8 = 18446744073709551616 := by decide
      obtain ⟨h1, h2⟩ := ii
      unfold turned
      omega
    have hi2 : ((turned i : Nat) : Int) - 9223372036854775808 = i := by
      obtain ⟨h1, h2⟩ := ii
      unfold turned
      omega
    rw [if_pos (by rw [hl]; omega), ht, hd, beU_beR, beN_beR 8 _ hU, hi2]
  · subst e
    show fMark 4 ((s.data.toList ++ [0]) ++ r) = _
    show fText ((s.data.toList ++ [0]) ++ r) = _
    have e : (s.data.toList ++ [0]) ++ r = s.data.toList ++ 0 :: r := by simp
    rw [e]
    unfold fText
    rw [zAt_text _ _ hz]
    have ht : (s.data.toList ++ 0 :: r).take s.data.toList.length = s.data.toList := List.take_left' rfl
    have hd : (s.data.toList ++ 0 :: r).drop (s.data.toList.length + 1) = r := by
      rw [← List.drop_drop, List.drop_left' rfl]
      rfl
    rw [if_pos (by rw [List.length_append, List.length_cons]; omega), ht, hd, str_data, if_pos h]
theorem read_back (l : List V) (h : l.all V.right = true) (hi : ∀ v ∈ l, v.ok) : readL (rowBytes l) = some l := by
  induction l with
  | nil => exact readL_nil
  | cons v l ih =>
    rw [List.all_cons, Bool.and_eq_true] at h
    have e : rowBytes (v :: l) = v.bytes ++ rowBytes l := rfl
    have hf := first_back h.1 (hi v (by simp)).1 (rowBytes l)
    rw [← e] at hf
    cases hx : rowBytes (v :: l) with
    | nil => rw [hx] at hf; cases hf
    | cons b x =>
      rw [hx] at hf
      rw [readL_some hf, ih h.2 (fun u hu => hi u (by simp [hu]))]
      rfl
end Go.Proofs.YtfabcnbblhadnaaDoor.Mem
