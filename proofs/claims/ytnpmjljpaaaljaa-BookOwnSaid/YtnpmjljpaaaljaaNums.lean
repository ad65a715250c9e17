/- Plain facts on numbers of 64 bits: a sum, a difference, a product within bounds or beyond them; sizes and signs; quotients. No program is named here. -/
import Derived.IntWalk
import Derived.RowKit
namespace Go.Proofs.Ytnpmjljpaaaljaa.Nums
open Go.RowKit (wrap64)

/-- within the bounds of a number of 64 bits -/
def In64 (x : Int) : Prop := -9223372036854775808 ≤ x ∧ x ≤ 9223372036854775807
instance (x : Int) : Decidable (In64 x) := by unfold In64; infer_instance

/-- the answer: the number, or 0 -/
def capN (x : Int) : Int := if In64 x then x else 0
/-- the answer's error: 0, or 9 -/
def capE (x : Int) : Int := if In64 x then 0 else 9
theorem capN_in {x : Int} (h : In64 x) : capN x = x := if_pos h
theorem capE_in {x : Int} (h : In64 x) : capE x = 0 := if_pos h
theorem capN_out {x : Int} (h : ¬ In64 x) : capN x = 0 := if_neg h
theorem capE_out {x : Int} (h : ¬ In64 x) : capE x = 9 := if_neg h
theorem capN_64 (x : Int) : In64 (capN x) := by
  unfold capN; split
  · assumption
  · unfold In64; omega

theorem wrap_in {x : Int} (h : In64 x) : wrap64 x = x := Go.IntWalk.wrap64_in x h
theorem wrap_is (x : Int) : ∃ k : Int, wrap64 x = x + 18446744073709551616 * k ∧ In64 (wrap64 x) := by
  refine ⟨-((x + 9223372036854775808) / 18446744073709551616), ?_, ?_⟩
  · unfold wrap64; omega
  · unfold wrap64 In64; omega

/-- how great a number is -/
def mag (n : Int) : Int := if n < 0 then -n else n
theorem mag_neg {n : Int} (h : n < 0) : mag n = -n := if_pos h
theorem mag_pos {n : Int} (h : 0 ≤ n) : mag n = n := if_neg (by omega)
theorem mag_bd {n : Int} (h : In64 n) : 0 ≤ mag n ∧ mag n ≤ 9223372036854775808 := by
  unfold In64 at h; unfold mag; split <;> omega

/-- a size with a sign: the number, or 0; is it one -/
def sgnN (s : Int) (b : Bool) : Int := if b then (if s ≤ 9223372036854775808 then -s else 0) else (if s < 9223372036854775808 then s else 0)
def sgnB (s : Int) (b : Bool) : Bool := if b then decide (s ≤ 9223372036854775808) else decide (s < 9223372036854775808)
theorem sgnN_64 {s : Int} (h : 0 ≤ s) (b : Bool) : In64 (sgnN s b) := by
  unfold sgnN In64; cases b <;> simp <;> split <;> omega
/-- the answer of a number and whether it is one -/
def ansN (n : Int) (ok : Bool) : Int := if ok then n else 0
def ansE (ok : Bool) : Int := if ok then 0 else 9

/-- What the reference makes of a number that is its own size and sign: whole. -/
theorem ref_val {s x : Int} {b : Bool} (hs : 0 ≤ s) (hx : x = if b then -s else s) : ansN (sgnN s b) (sgnB s b) = capN x ∧ ansE (sgnB s b) = capE x := by
  subst hx
  unfold ansN ansE sgnN sgnB capN capE In64
  cases b <;> simp <;> (repeat' split) <;> first | omega | (constructor <;> omega) | simp_all | skip
  all_goals omega


/-- the quotient, towards 0, and what it leaves -/
def divN (a b : Int) : Int := if b = 0 then 0 else if a = -9223372036854775808 ∧ b = -1 then 0 else a.tdiv b
def divE (a b : Int) : Int := if b = 0 then 10 else if a = -9223372036854775808 ∧ b = -1 then 9 else 0
def modN (a b : Int) : Int := if b = 0 then 0 else a.tmod b
def modE (b : Int) : Int := if b = 0 then 10 else 0
theorem divN_else {a b : Int} (h : b ≠ 0) (h' : ¬ (a = -9223372036854775808 ∧ b = -1)) : divN a b = a.tdiv b := by unfold divN; rw [if_neg h, if_neg h']
theorem divE_else {a b : Int} (h : b ≠ 0) (h' : ¬ (a = -9223372036854775808 ∧ b = -1)) : divE a b = 0 := by unfold divE; rw [if_neg h, if_neg h']

theorem quo_mag (a b : Int) (h0 : b ≠ 0) (h1 : b ≠ -1) (h2 : b ≠ 1) : 2 * (a.tdiv b).natAbs ≤ a.natAbs := by
  rw [Int.natAbs_tdiv]
  have hb : 2 ≤ b.natAbs := by omega
  have : a.natAbs.div b.natAbs * b.natAbs ≤ a.natAbs := Nat.div_mul_le_self _ _
  have h3 := Nat.mul_le_mul_left (a.natAbs.div b.natAbs) hb
  omega
theorem quo_64 (a b : Int) (h : In64 a) (h0 : b ≠ 0) (h1 : b ≠ -1) : In64 (a.tdiv b) := by
  by_cases h2 : b = 1
  · subst h2; rw [Int.tdiv_one]; exact h
  · have := quo_mag a b h0 h1 h2
    unfold In64 at *
    omega
theorem quo_64' (a b : Int) (h : In64 a) (h0 : b ≠ 0) (h1 : ¬ (a = -9223372036854775808 ∧ b = -1)) : In64 (a.tdiv b) := by
  by_cases h2 : b = -1
  · subst h2
    have e : a.tdiv (-1) = -a := by rw [Int.tdiv_neg, Int.tdiv_one]
    rw [e]; unfold In64 at *; omega
  · exact quo_64 a b h h0 h2
theorem prod_out (a b : Int) (hb : In64 b) (h0 : b ≠ 0) (h : ¬ In64 (a * b)) : (wrap64 (a * b)).tdiv b ≠ a := by
  intro e
  obtain ⟨k, hk, hk2⟩ := wrap_is (a * b)
  have h1 := Int.mul_tdiv_add_tmod (wrap64 (a * b)) b
  have h2 : (Int.tmod (wrap64 (a * b)) b).natAbs < b.natAbs := by
    rw [Int.natAbs_tmod]; exact Nat.mod_lt _ (by omega)
  rw [e, Int.mul_comm b a] at h1
  have hk0 : k ≠ 0 := by intro hz; subst hz; apply h; rw [show a * b = wrap64 (a * b) by omega]; exact hk2
  unfold In64 at hb
  omega
/-- a digit set behind those of a number -/
def pushN (n d : Int) : Int := if In64 (n * 10) then capN (n * 10 + d) else 0
def pushE (n d : Int) : Int := if In64 (n * 10) then capE (n * 10 + d) else 9
/-- the lower and the upper half of 128 bits -/
def lo64 (x : Int) : Int := x % 18446744073709551616
def hi64 (x : Int) : Int := x / 18446744073709551616
theorem lo64_bd (x : Int) : 0 ≤ lo64 x ∧ lo64 x ≤ 18446744073709551615 := by unfold lo64; omega
theorem sum_yes (s x : Int) (p : Bool) (hs : 0 ≤ s) (hx : x = if p then -s else s) (h : sgnB (lo64 s) p = true) :
    ansN (sgnN (lo64 s) p) (hi64 s == 0) = capN x ∧ ansE (hi64 s == 0) = capE x := by
  by_cases hc : hi64 s = 0
  · have e : lo64 s = s := by unfold lo64 hi64 at *; omega
    rw [e] at h ⊢
    have := ref_val hs hx
    rw [h] at this
    simpa [hc] using this
  · have hn : ¬ In64 x := by unfold hi64 at hc; unfold In64; subst hx; cases p <;> simp <;> omega
    have e : (hi64 s == 0) = false := by simpa using hc
    rw [capN_out hn, capE_out hn, e]
    exact ⟨rfl, rfl⟩
theorem sum_no (s x : Int) (p : Bool) (hs : 0 ≤ s) (hx : x = if p then -s else s) (h : ¬ sgnB (lo64 s) p = true) :
    ansN (sgnN (lo64 s) p) false = capN x ∧ ansE false = capE x := by
  have hn : ¬ In64 x := by
    intro hi
    apply h
    have e : lo64 s = s := by unfold lo64; unfold In64 at hi; subst hx; cases p <;> simp at hi <;> omega
    rw [e]
    unfold In64 at hi; subst hx; unfold sgnB; cases p <;> simp at hi ⊢ <;> omega
  rw [capN_out hn, capE_out hn]
  exact ⟨rfl, rfl⟩

theorem add_same (a b : Int) (p : Bool) (g : a < 0 ↔ b < 0) (hp : p = true ↔ b < 0) : a + b = if p then -(mag a + mag b) else mag a + mag b := by
  cases p
  · have : ¬ b < 0 := by simpa using hp
    rw [mag_pos (by omega), mag_pos (by omega)]; simp
  · have : b < 0 := by simpa using hp
    rw [mag_neg (by omega), mag_neg (by omega)]; simp; omega
theorem add_ge (a b : Int) (g : ¬ (a < 0 ↔ b < 0)) : a + b = if decide (a < 0) then -(mag a - mag b) else mag a - mag b := by
  by_cases h : a < 0
  · rw [mag_neg h, mag_pos (by omega)]; simp [h]; omega
  · rw [mag_pos (by omega), mag_neg (by omega)]; simp [h]
theorem add_lt (a b : Int) (g : ¬ (a < 0 ↔ b < 0)) : a + b = if decide (b < 0) then -(mag b - mag a) else mag b - mag a := by
  rw [Int.add_comm]; exact add_ge b a (by omega)
theorem sub_diff (a b : Int) (g : ¬ (a < 0 ↔ b < 0)) : a - b = if decide (a < 0) then -(mag a + mag b) else mag a + mag b := by
  by_cases h : a < 0
  · rw [mag_neg h, mag_pos (by omega)]; simp [h]; omega
  · rw [mag_pos (by omega), mag_neg (by omega)]; simp [h]; omega
theorem sub_ge (a b : Int) (p : Bool) (g : a < 0 ↔ b < 0) (hp : p = true ↔ a < 0) : a - b = if p then -(mag a - mag b) else mag a - mag b := by
  cases p
  · have : ¬ a < 0 := by simpa using hp
    rw [mag_pos (by omega), mag_pos (by omega)]; simp
  · have : a < 0 := by simpa using hp
    rw [mag_neg (by omega), mag_neg (by omega)]; simp; omega
theorem sub_lt (a b : Int) (p : Bool) (g : a < 0 ↔ b < 0) (hp : p = true ↔ ¬ a < 0) : a - b = if p then -(mag b - mag a) else mag b - mag a := by
  cases p
  · have : a < 0 := by simpa using hp
    rw [mag_neg (by omega), mag_neg (by omega)]; simp; omega
  · have : ¬ a < 0 := by simpa using hp
    rw [mag_pos (by omega), mag_pos (by omega)]; simp; omega
theorem neg_is (a : Int) : -a = if decide (0 < a) then -mag a else mag a := by
  by_cases h : 0 < a
  · rw [mag_pos (by omega)]; simp [h]
  · simp [h]; unfold mag; split <;> omega
theorem mag_abs (a : Int) : mag a = (a.natAbs : Int) := by unfold mag; split <;> omega
theorem mul_is (a b : Int) (p : Bool) (hp : p = true ↔ ¬ (a < 0 ↔ b < 0)) : a * b = if p then -(mag a * mag b) else mag a * mag b := by
  by_cases h : a < 0 <;> by_cases h' : b < 0 <;> simp [h, h'] at hp <;> subst hp
  · rw [mag_neg h, mag_neg h']; simp [Int.neg_mul_neg]
  · rw [mag_neg h, mag_pos (by omega)]; simp [Int.neg_mul]
  · rw [mag_pos (by omega), mag_neg h']; simp [Int.mul_neg]
  · rw [mag_pos (by omega), mag_pos (by omega)]; simp
theorem quo_is (a b : Int) (p : Bool) (hp : p = true ↔ ¬ (a < 0 ↔ b < 0)) : a.tdiv b = if p then -(mag a / mag b) else mag a / mag b := by
  have e : ∀ x y : Int, 0 ≤ x → x / y = x.tdiv y := fun x y h => (Int.tdiv_eq_ediv_of_nonneg h).symm
  by_cases h : a < 0 <;> by_cases h' : b < 0 <;> simp [h, h'] at hp <;> subst hp
  · rw [mag_neg h, mag_neg h', e _ _ (by omega)]; simp [Int.tdiv_neg, Int.neg_tdiv]
  · rw [mag_neg h, mag_pos (by omega), e _ _ (by omega)]; simp [Int.neg_tdiv]
  · rw [mag_pos (by omega), mag_neg h', e _ _ (by omega)]; simp [Int.tdiv_neg]
  · rw [mag_pos (by omega), mag_pos (by omega), e _ _ (by omega)]; simp
theorem rem_is (a b : Int) : a.tmod b = if decide (a < 0) then -(mag a % mag b) else mag a % mag b := by
  have e : ∀ x y : Int, 0 ≤ x → x % y = x.tmod y := fun x y h => (Int.tmod_eq_emod_of_nonneg h).symm
  by_cases h : a < 0 <;> by_cases h' : b < 0 <;> simp [h]
  · rw [mag_neg h, mag_neg h', e _ _ (by omega)]; simp [Int.tmod_neg, Int.neg_tmod]
  · rw [mag_neg h, mag_pos (by omega), e _ _ (by omega)]; simp [Int.neg_tmod]
  · rw [mag_pos (by omega), mag_neg h', e _ _ (by omega)]; simp [Int.tmod_neg]
  · rw [mag_pos (by omega), mag_pos (by omega), e _ _ (by omega)]
theorem div_cap (a b : Int) (ha : In64 a) (h0 : b ≠ 0) : capN (a.tdiv b) = divN a b ∧ capE (a.tdiv b) = divE a b := by
  by_cases h1 : a = -9223372036854775808 ∧ b = -1
  · obtain ⟨rfl, rfl⟩ := h1; decide
  · have := quo_64' a b ha h0 h1
    rw [divN_else h0 h1, divE_else h0 h1, capN_in this, capE_in this]; exact ⟨rfl, rfl⟩
theorem mod_64 (a b : Int) (hb : In64 b) (h0 : b ≠ 0) : In64 (a.tmod b) := by
  have h : (a.tmod b).natAbs < b.natAbs := by rw [Int.natAbs_tmod]; exact Nat.mod_lt _ (by omega)
  unfold In64 at *; omega
theorem mod_cap (a b : Int) (hb : In64 b) (h0 : b ≠ 0) : capN (a.tmod b) = modN a b ∧ capE (a.tmod b) = modE b := by
  have := mod_64 a b hb h0
  rw [capN_in this, capE_in this, modN, modE, if_neg h0, if_neg h0]; exact ⟨rfl, rfl⟩

/-- digits, one behind the other: the number so far and its error -/
def readStep (x : Int × Int) (c : UInt8) : Int × Int := if x.2 = 0 then (pushN x.1 ((c.toNat : Int) - 48), pushE x.1 ((c.toNat : Int) - 48)) else x
def readL (l : List UInt8) : Int × Int := l.foldl readStep (0, 0)
def isDig (c : UInt8) : Bool := decide (48 ≤ c.toNat) && decide (c.toNat ≤ 57)
def readN (l : List UInt8) : Int := if l ≠ [] ∧ l.all isDig then (readL l).1 else 0
def readE (l : List UInt8) : Int := if l ≠ [] ∧ l.all isDig then (readL l).2 else 3
theorem readL_nil : readL [] = (0, 0) := rfl
theorem readL_snoc (l : List UInt8) (c : UInt8) : readL (l ++ [c]) = readStep (readL l) c := by unfold readL; rw [List.foldl_append]; rfl
theorem pushN_64 (n d : Int) : In64 (pushN n d) := by
  unfold pushN; split
  · exact capN_64 _
  · unfold In64; omega
theorem readL_64 (l : List UInt8) : In64 (readL l).1 := by
  have h : ∀ (l : List UInt8) (x : Int × Int), In64 x.1 → In64 (l.foldl readStep x).1 := by
    intro l
    induction l with
    | nil => intro x h; exact h
    | cons c r ih =>
      intro x h
      refine ih _ ?_
      unfold readStep
      split
      · exact pushN_64 _ _
      · exact h
  exact h l _ (by unfold In64; omega)
theorem readN_64 (l : List UInt8) : In64 (readN l) := by
  unfold readN; split
  · exact readL_64 l
  · unfold In64; omega
theorem prod_64 (a b : Int) (ha : In64 a) : In64 (a.tdiv b * b) := by
  have h1 := Int.mul_tdiv_add_tmod a b
  rw [Int.mul_comm] at h1
  have h2 : (a.tmod b).natAbs ≤ a.natAbs := by rw [Int.natAbs_tmod]; exact Nat.mod_le _ _
  have h3 : 0 ≤ a → 0 ≤ a.tmod b := fun h => Int.tmod_nonneg b h
  have h4 : a ≤ 0 → a.tmod b ≤ 0 := fun h => by
    have := Int.tmod_nonneg b (show 0 ≤ -a by omega)
    rw [Int.neg_tmod] at this
    omega
  unfold In64 at *
  omega
end Go.Proofs.Ytnpmjljpaaaljaa.Nums
