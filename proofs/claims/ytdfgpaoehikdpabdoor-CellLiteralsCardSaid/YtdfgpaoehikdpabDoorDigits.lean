/- Plain facts on decimal digits: the number of a list of digits; what is read of it; digits of a number read back; order of lists of one length. No program is named here. -/
import Derived.Test.YtdfgpaoehikdpabDoorNums
import Derived.Lib.ItoaNum
import GoSem.Op.String
namespace Go.Proofs.YtdfgpaoehikdpabDoor.Nums

/-- the number of which these are the digits -/
def valL (l : List UInt8) : Int := l.foldl (fun n c => 10 * n + ((c.toNat : Int) - 48)) 0
theorem valL_snoc (l : List UInt8) (c : UInt8) : valL (l ++ [c]) = 10 * valL l + ((c.toNat : Int) - 48) := by unfold valL; rw [List.foldl_append]; rfl
theorem dig_bd {c : UInt8} (h : isDig c = true) : 48 ≤ (c.toNat : Int) ∧ (c.toNat : Int) ≤ 57 := by
  unfold isDig at h; simp at h; omega
theorem snoc_ind {P : List UInt8 → Prop} (h0 : P []) (h1 : ∀ l c, P l → P (l ++ [c])) : ∀ l, P l := by
  intro l
  have : ∀ m : List UInt8, P m.reverse := by
    intro m
    induction m with
    | nil => exact h0
    | cons c r ih => rw [List.reverse_cons]; exact h1 _ _ ih
  have h := this l.reverse
  rwa [List.reverse_reverse] at h
theorem valL_nonneg : ∀ l : List UInt8, l.all isDig = true → 0 ≤ valL l := by
  refine snoc_ind (fun _ => Int.le_refl 0) fun l c ih h => ?_
  simp only [List.all_append, List.all_cons, List.all_nil, Bool.and_true, Bool.and_eq_true] at h
  have := ih h.1
  have := dig_bd h.2
  rw [valL_snoc]; omega
theorem readL_val : ∀ l : List UInt8, l.all isDig = true → readL l = if valL l ≤ 9223372036854775807 then (valL l, 0) else (0, 9) := by
  refine snoc_ind (fun _ => rfl) fun l c ih h => ?_
  simp only [List.all_append, List.all_cons, List.all_nil, Bool.and_true, Bool.and_eq_true] at h
  have h0 := valL_nonneg l h.1
  have hd := dig_bd h.2
  rw [readL_snoc, ih h.1, valL_snoc]
  unfold readStep
  split
  · simp only [if_pos]
    unfold pushN pushE
    by_cases g : In64 (valL l * 10)
    · rw [if_pos g, if_pos g]
      by_cases g2 : In64 (valL l * 10 + ((c.toNat : Int) - 48))
      · rw [capN_in g2, capE_in g2]
        unfold In64 at g g2
        rw [if_pos (by omega)]
        congr 1; omega
      · rw [capN_out g2, capE_out g2]
        unfold In64 at g g2
        rw [if_neg (by omega)]
    · rw [if_neg g, if_neg g]
      unfold In64 at g
      rw [if_neg (by omega)]
  · rw [if_neg (by decide), if_neg (by omega)]

/-- order of digits of one length is the numbers' order -/
def valFrom (n : Int) (l : List UInt8) : Int := l.foldl (fun n c => 10 * n + ((c.toNat : Int) - 48)) n
theorem valFrom_lin : ∀ (l : List UInt8) (n : Int), valFrom n l = n * (10 ^ l.length : Nat) + valL l := by
  refine snoc_ind (fun n => by simp [valFrom, valL]) fun l c ih n => ?_
  have e : valFrom n (l ++ [c]) = 10 * valFrom n l + ((c.toNat : Int) - 48) := by unfold valFrom; rw [List.foldl_append]; rfl
  rw [e, ih n, valL_snoc, List.length_append, List.length_singleton, Nat.pow_succ, Int.natCast_mul]
  have : n * (((10 ^ l.length : Nat) : Int) * ((10 : Nat) : Int)) = 10 * (n * ((10 ^ l.length : Nat) : Int)) := by
    rw [← Int.mul_assoc, Int.mul_comm]; rfl
  rw [this]; omega
theorem valL_cons (c : UInt8) (l : List UInt8) : valL (c :: l) = ((c.toNat : Int) - 48) * (10 ^ l.length : Nat) + valL l := by
  have : valL (c :: l) = valFrom (10 * 0 + ((c.toNat : Int) - 48)) l := rfl
  rw [this, valFrom_lin]; simp
theorem valL_lt : ∀ l : List UInt8, l.all isDig = true → valL l < (10 ^ l.length : Nat) := by
  refine snoc_ind (fun _ => by decide) fun l c ih h => ?_
  simp only [List.all_append, List.all_cons, List.all_nil, Bool.and_true, Bool.and_eq_true] at h
  have := ih h.1
  have := dig_bd h.2
  rw [valL_snoc, List.length_append, List.length_singleton, Nat.pow_succ, Int.natCast_mul]
  omega
theorem less_val : ∀ (a b : List UInt8), a.length = b.length → a.all isDig = true → b.all isDig = true → Go.Op.bytesLess a b = decide (valL a < valL b)
  | [], [], _, _, _ => by simp [Go.Op.bytesLess]
  | c :: a, d :: b, hl, ha, hb => by
    simp only [List.length_cons, Nat.add_right_cancel_iff] at hl
    simp only [List.all_cons, Bool.and_eq_true] at ha hb
    have la := valL_lt a ha.2
    have lb := valL_lt b hb.2
    have na := valL_nonneg a ha.2
    have nb := valL_nonneg b hb.2
    have dc := dig_bd ha.1
    have dd := dig_bd hb.1
    rw [Go.Op.bytesLess, less_val a b hl ha.2 hb.2, valL_cons, valL_cons, hl]
    rw [hl] at la
    obtain ⟨p, hp⟩ : ∃ p : Int, p = ((10 ^ b.length : Nat) : Int) := ⟨_, rfl⟩
    rw [← hp] at la lb ⊢
    by_cases h1 : c = d
    · subst h1
      have e : (c < c) = False := by simp
      simp [e]
    · have h2 : c.toNat ≠ d.toNat := fun e => h1 (UInt8.toNat_inj.1 e)
      have e1 : (c == d) = false := by simpa using h1
      rw [e1]
      simp only [Bool.false_and, Bool.or_false]
      by_cases h3 : c.toNat < d.toNat
      · have e2 : c < d := UInt8.lt_iff_toNat_lt.2 h3
        have := Int.mul_le_mul_of_nonneg_right (show ((c.toNat : Int) - 48) + 1 ≤ (d.toNat : Int) - 48 by omega) (show 0 ≤ p by omega)
        rw [Int.add_mul, Int.one_mul] at this
        simp [e2]; omega
      · have e2 : ¬ c < d := fun e => h3 (UInt8.lt_iff_toNat_lt.1 e)
        have := Int.mul_le_mul_of_nonneg_right (show ((d.toNat : Int) - 48) + 1 ≤ (c.toNat : Int) - 48 by omega) (show 0 ≤ p by omega)
        rw [Int.add_mul, Int.one_mul] at this
        simp [e2]; omega

theorem less_tri : ∀ (a b : List UInt8), a.length = b.length → Go.Op.bytesLess a b = false → Go.Op.bytesLess b a = false → a = b
  | [], [], _, _, _ => rfl
  | c :: a, d :: b, hl, h1, h2 => by
    simp only [List.length_cons, Nat.add_right_cancel_iff] at hl
    rw [Go.Op.bytesLess] at h1 h2
    simp only [Bool.or_eq_false_iff, decide_eq_false_iff_not] at h1 h2
    have hc : c = d := by
      have a1 := h1.1
      have a2 := h2.1
      rw [UInt8.lt_iff_toNat_lt] at a1 a2
      exact UInt8.toNat_inj.1 (by omega)
    subst hc
    rw [less_tri a b hl (by simpa using h1.2) (by simpa using h2.2)]
/-- noughts ahead change nothing -/
theorem valL_zero (l : List UInt8) : valL (48 :: l) = valL l := by rw [valL_cons]; simp

theorem isDig_of (n : Nat) (h : n < 10) : isDig (UInt8.ofNat (48 + n)) = true := by
  unfold isDig
  have : (UInt8.ofNat (48 + n)).toNat = 48 + n := by simp; omega
  rw [this]; simp; omega
theorem dig_val (n : Nat) (h : n < 10) : ((UInt8.ofNat (48 + n)).toNat : Int) - 48 = n := by
  have : (UInt8.ofNat (48 + n)).toNat = 48 + n := by simp; omega
  rw [this]; omega
theorem dec_all (u : Nat) : (Go.Lib.decDigits u).all isDig = true := by
  induction u using Nat.strongRecOn with
  | ind u ih =>
    rw [Go.Lib.decDigits]
    split
    · rename_i h; rw [List.all_cons, isDig_of u h]; rfl
    · rename_i h
      rw [List.all_append, ih (u / 10) (by omega), List.all_cons, isDig_of (u % 10) (by omega)]; rfl
theorem dec_val (u : Nat) : valL (Go.Lib.decDigits u) = u := by
  induction u using Nat.strongRecOn with
  | ind u ih =>
    rw [Go.Lib.decDigits]
    split
    · rename_i h
      have := valL_snoc [] (UInt8.ofNat (48 + u))
      rw [List.nil_append] at this
      rw [this, dig_val u h]; simp [valL]
    · rename_i h
      rw [valL_snoc, ih (u / 10) (by omega), dig_val (u % 10) (by omega)]
      omega
theorem dec_ne (u : Nat) : Go.Lib.decDigits u ≠ [] := by
  rw [Go.Lib.decDigits]; split <;> simp

/-- What is read of all digits, told by their number. -/
theorem read_of {l : List UInt8} (h0 : l ≠ []) (h : l.all isDig = true) : readN l = (if valL l ≤ 9223372036854775807 then valL l else 0) ∧ readE l = if valL l ≤ 9223372036854775807 then 0 else 9 := by
  have c : l ≠ [] ∧ l.all isDig = true := ⟨h0, h⟩
  have e1 : readN l = (readL l).1 := if_pos c
  have e2 : readE l = (readL l).2 := if_pos c
  rw [e1, e2, readL_val l h]
  split <;> exact ⟨rfl, rfl⟩
theorem read_dec (n : Int) (h0 : 0 ≤ n) (h1 : n ≤ 9223372036854775807) : readN (Go.Lib.itoa n) = n ∧ readE (Go.Lib.itoa n) = 0 := by
  have e : Go.Lib.itoa n = Go.Lib.decDigits n.toNat := by unfold Go.Lib.itoa; rw [if_neg (by omega)]
  rw [e]
  have r := read_of (dec_ne n.toNat) (dec_all n.toNat)
  rw [dec_val, if_pos (by omega), if_pos (by omega)] at r
  exact ⟨by rw [r.1]; omega, r.2⟩
theorem read_neg (n : Int) (h0 : n < 0) : readN (Go.Lib.itoa n) = 0 ∧ readE (Go.Lib.itoa n) = 3 := by
  have e : Go.Lib.itoa n = 45 :: Go.Lib.decDigits n.natAbs := by unfold Go.Lib.itoa; rw [if_pos h0]
  have : ¬ (Go.Lib.itoa n ≠ [] ∧ (Go.Lib.itoa n).all isDig = true) := by
    rw [e]; intro ⟨_, h⟩
    rw [List.all_cons] at h
    simp [isDig] at h
  unfold readN readE
  rw [if_neg this, if_neg this]; exact ⟨rfl, rfl⟩
/-- more than 19 digits, the first no nought: too great; 18 at the most: never -/
theorem val_long {l : List UInt8} (h : l.all isDig = true) (h0 : l.head? ≠ some 48) (hl : 19 < l.length) : ¬ valL l ≤ 9223372036854775807 := by
  match l with
  | [] => simp at hl
  | c :: r =>
    rw [List.all_cons, Bool.and_eq_true] at h
    have hd := dig_bd h.1
    have hn := valL_nonneg r h.2
    have hc : (c.toNat : Int) ≠ 48 := by
      intro e
      apply h0
      have : c.toNat = 48 := by omega
      simp [UInt8.toNat_inj.1 (show c.toNat = (48 : UInt8).toNat from this)]
    rw [valL_cons]
    have hp : (10 ^ 19 : Nat) ≤ 10 ^ r.length := Nat.pow_le_pow_right (by decide) (by rw [List.length_cons] at hl; omega)
    obtain ⟨p, hp'⟩ : ∃ p : Int, p = ((10 ^ r.length : Nat) : Int) := ⟨_, rfl⟩
    rw [← hp']
    have hp2 : (10000000000000000000 : Int) ≤ p := by rw [hp']; exact Int.ofNat_le.2 hp
    have := Int.mul_le_mul_of_nonneg_right (show (1 : Int) ≤ (c.toNat : Int) - 48 by omega) (show 0 ≤ p by omega)
    omega
theorem val_short {l : List UInt8} (h : l.all isDig = true) (hl : l.length ≤ 18) : valL l ≤ 9223372036854775807 := by
  have h1 := valL_lt l h
  have hp : 10 ^ l.length ≤ (10 ^ 18 : Nat) := Nat.pow_le_pow_right (by decide) hl
  have : ((10 ^ l.length : Nat) : Int) ≤ ((10 ^ 18 : Nat) : Int) := Int.ofNat_le.2 hp
  have e : ((10 ^ 18 : Nat) : Int) = 1000000000000000000 := by decide
  omega
def maxDigits : List UInt8 := [57, 50, 50, 51, 51, 55, 50, 48, 51, 54, 56, 53, 52, 55, 55, 53, 56, 48, 55]
theorem max_val : valL maxDigits = 9223372036854775807 := by decide
theorem val_nineteen {l : List UInt8} (h : l.all isDig = true) (hl : l.length = 19) : (!Go.Op.bytesLess l maxDigits && !(l == maxDigits)) = !decide (valL l ≤ 9223372036854775807) := by
  rw [less_val l maxDigits (by rw [hl]; rfl) h (by decide), max_val]
  by_cases e : l = maxDigits
  · rw [e, max_val]; decide
  · have e1 : (l == maxDigits) = false := by simpa using e
    rw [e1]
    have ne : valL l ≠ 9223372036854775807 := by
      intro hv
      have a := less_val l maxDigits (by rw [hl]; rfl) h (by decide)
      have b := less_val maxDigits l (by rw [hl]; rfl) (by decide) h
      rw [max_val, hv] at a b
      exact e (less_tri l maxDigits (by rw [hl]; rfl) (by simpa using a) (by simpa using b))
    by_cases g : valL l < 9223372036854775807
    · have g2 : valL l ≤ 9223372036854775807 := by omega
      simp [g, g2]
    · have g2 : ¬ valL l ≤ 9223372036854775807 := by omega
      simp [g, g2]
theorem valL_append (a b : List UInt8) : valL (a ++ b) = valL a * (10 ^ b.length : Nat) + valL b := by
  rw [← valFrom_lin]; unfold valL valFrom; rw [List.foldl_append]
theorem valL_take (l : List UInt8) (h : l.all isDig = true) (k : Nat) : valL (l.take k) ≤ valL l ∧ 0 ≤ valL (l.take k) := by
  have e := valL_append (l.take k) (l.drop k)
  rw [List.take_append_drop] at e
  have ha : (l.take k).all isDig = true := by
    rw [List.all_eq_true] at h ⊢; exact fun x hx => h x (List.mem_of_mem_take hx)
  have hb : (l.drop k).all isDig = true := by
    rw [List.all_eq_true] at h ⊢; exact fun x hx => h x (List.mem_of_mem_drop hx)
  have n1 := valL_nonneg _ ha
  have n2 := valL_nonneg _ hb
  have hp : (1 : Int) ≤ ((10 ^ (l.drop k).length : Nat) : Int) := Int.ofNat_le.2 (Nat.pow_pos (by decide))
  have := Int.mul_le_mul_of_nonneg_left hp n1
  rw [Int.mul_one] at this
  exact ⟨by omega, n1⟩
theorem dec_len : ∀ (k u : Nat), u < 10 ^ (k + 1) → (Go.Lib.decDigits u).length ≤ k + 1
  | 0, u, h => by
    rw [Go.Lib.decDigits, dif_pos (by omega)]; simp
  | k + 1, u, h => by
    rw [Go.Lib.decDigits]
    split
    · simp
    · have e : 10 ^ (k + 1 + 1) = 10 ^ (k + 1) * 10 := Nat.pow_succ 10 (k + 1)
      have := dec_len k (u / 10) (by omega)
      simp; omega
theorem dec_len19 (n : Int) (h : In64 n) : (Go.Lib.decDigits n.natAbs).length ≤ 19 := by
  have := dec_len 18 n.natAbs (by unfold In64 at h; have e : (10 : Nat) ^ (18 + 1) = 10000000000000000000 := by decide
                                  rw [e]; omega)
  omega
theorem itoa_len (n : Int) (h : In64 n) : (Go.Lib.itoa n).length ≤ 20 := by
  have := dec_len19 n h
  unfold Go.Lib.itoa
  split
  · simp; omega
  · have e : n.toNat = n.natAbs := by omega
    rw [e]; omega
end Go.Proofs.YtdfgpaoehikdpabDoor.Nums
