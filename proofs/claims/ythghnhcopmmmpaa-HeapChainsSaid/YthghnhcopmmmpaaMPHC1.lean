/- Texts Nums to PackB, one behind the other. -/
import Derived.IntWalk
import Derived.RowKit
import Derived.Test.YthghnhcopmmmpaaRows
import Derived.WalkKit
import Derived.Lib.Hide
import Derived.Lib.AppendStr
import Derived.Outline
import Derived.Below
import Derived.WalkSpells
import Derived.WalkLawsBesides
import Derived.Maps.AppendAt
import Derived.Deep.AppendLies
import Derived.Deep.RegionWith
import Derived.Deep.RegionLaw
import Derived.Deep.RegionHeldLaw
import Derived.Deep.QuietTactic
import Derived.BigQuiet
import Derived.Lib.QuietBelow
import Derived.Lib.BufferMore
import Derived.Deep.RegionHeld3
import Derived.Laws.CopyOwn
import Derived.Laws.OwnMore
import Derived.OwnWalk
import Derived.Lib.SliceRun
import Derived.Laws.Tables
/- Plain facts on numbers of 64 bits: a sum, a difference, a product within bounds or beyond them; sizes and signs; quotients. No program is named here. -/
namespace Go.Proofs.Ythghnhcopmmmpaa.Nums
open Go.RowKit (wrap64)

/-- within the bounds of a number of 64 bits -/
def In64 (x : Int) : Prop := -9223372036854775808 ≤ x ∧ x ≤ 9223372036854775807
instance (x : Int) : Decidable (In64 x) := by unfold In64; infer_instance

/-- the answer: the number, or 0 -/
def capN (x : Int) : Int := if In64 x then x else 0
/-- the answer's error: 0, or 9 -/
def capE (x : Int) : Int := if In64 x then 0 else 9
theorem capN_in {x : Int} (h : In64 x) : capN x = x := if_pos h
theorem capE_in {x : Int} (h : In64 x) : capE x = 0 := if_pos h
theorem capN_out {x : Int} (h : ¬ In64 x) : capN x = 0 := if_neg h
theorem capE_out {x : Int} (h : ¬ In64 x) : capE x = 9 := if_neg h
theorem capN_64 (x : Int) : In64 (capN x) := by
  unfold capN; split
  · assumption
  · unfold In64; omega

theorem wrap_in {x : Int} (h : In64 x) : wrap64 x = x := Go.IntWalk.wrap64_in x h
theorem wrap_is (x : Int) : ∃ k : Int, wrap64 x = x + 18446744073709551616 * k ∧ In64 (wrap64 x) := by
  refine ⟨-((x + 9223372036854775808) / 18446744073709551616), ?_, ?_⟩
  · unfold wrap64; omega
  · unfold wrap64 In64; omega

/-- how great a number is -/
def mag (n : Int) : Int := if n < 0 then -n else n
theorem mag_neg {n : Int} (h : n < 0) : mag n = -n := if_pos h
theorem mag_pos {n : Int} (h : 0 ≤ n) : mag n = n := if_neg (by omega)
theorem mag_bd {n : Int} (h : In64 n) : 0 ≤ mag n ∧ mag n ≤ 9223372036854775808 := by
  unfold In64 at h; unfold mag; split <;> omega

/-- a size with a sign: the number, or 0; is it one -/
def sgnN (s : Int) (b : Bool) : Int := if b then (if s ≤ 9223372036854775808 then -s else 0) else (if s < 9223372036854775808 then s else 0)
def sgnB (s : Int) (b : Bool) : Bool := if b then decide (s ≤ 9223372036854775808) else decide (s < 9223372036854775808)
theorem sgnN_64 {s : Int} (h : 0 ≤ s) (b : Bool) : In64 (sgnN s b) := by
  unfold sgnN In64; cases b <;> simp <;> split <;> omega
/-- the answer of a number and whether it is one -/
def ansN (n : Int) (ok : Bool) : Int := if ok then n else 0
def ansE (ok : Bool) : Int := if ok then 0 else 9

/-- What the reference makes of a number that is its own size and sign: whole. -/
theorem ref_val {s x : Int} {b : Bool} (hs : 0 ≤ s) (hx : x = if b then -s else s) : ansN (sgnN s b) (sgnB s b) = capN x ∧ ansE (sgnB s b) = capE x := by
  subst hx
  unfold ansN ansE sgnN sgnB capN capE In64
  cases b <;> simp <;> (repeat' split) <;> first | omega | (constructor <;> omega) | simp_all | skip
  all_goals omega


/-- the quotient, towards 0, and what it leaves -/
def divN (a b : Int) : Int := if b = 0 then 0 else if a = -9223372036854775808 ∧ b = -1 then 0 else a.tdiv b
def divE (a b : Int) : Int := if b = 0 then 10 else if a = -9223372036854775808 ∧ b = -1 then 9 else 0
def modN (a b : Int) : Int := if b = 0 then 0 else a.tmod b
def modE (b : Int) : Int := if b = 0 then 10 else 0
theorem divN_else {a b : Int} (h : b ≠ 0) (h' : ¬ (a = -9223372036854775808 ∧ b = -1)) : divN a b = a.tdiv b := by unfold divN; rw [if_neg h, if_neg h']
theorem divE_else {a b : Int} (h : b ≠ 0) (h' : ¬ (a = -9223372036854775808 ∧ b = -1)) : divE a b = 0 := by unfold divE; rw [if_neg h, if_neg h']

theorem quo_mag (a b : Int) (h0 : b ≠ 0) (h1 : b ≠ -1) (h2 : b ≠ 1) : 2 * (a.tdiv b).natAbs ≤ a.natAbs := by
  rw [Int.natAbs_tdiv]
  have hb : 2 ≤ b.natAbs := by omega
  have : a.natAbs.div b.natAbs * b.natAbs ≤ a.natAbs := Nat.div_mul_le_self _ _
  have h3 := Nat.mul_le_mul_left (a.natAbs.div b.natAbs) hb
  omega
theorem quo_64 (a b : Int) (h : In64 a) (h0 : b ≠ 0) (h1 : b ≠ -1) : In64 (a.tdiv b) := by
  by_cases h2 : b = 1
  · subst h2; rw [Int.tdiv_one]; exact h
  · have := quo_mag a b h0 h1 h2
    unfold In64 at *
    omega
theorem quo_64' (a b : Int) (h : In64 a) (h0 : b ≠ 0) (h1 : ¬ (a = -9223372036854775808 ∧ b = -1)) : In64 (a.tdiv b) := by
  by_cases h2 : b = -1
  · subst h2
    have e : a.tdiv (-1) = -a := by rw [Int.tdiv_neg, Int.tdiv_one]
    rw [e]; unfold In64 at *; omega
  · exact quo_64 a b h h0 h2
theorem prod_out (a b : Int) (hb : In64 b) (h0 : b ≠ 0) (h : ¬ In64 (a * b)) : (wrap64 (a * b)).tdiv b ≠ a := by
  intro e
  obtain ⟨k, hk, hk2⟩ := wrap_is (a * b)
  have h1 := Int.mul_tdiv_add_tmod (wrap64 (a * b)) b
  have h2 : (Int.tmod (wrap64 (a * b)) b).natAbs < b.natAbs := by
    rw [Int.natAbs_tmod]; exact Nat.mod_lt _ (by omega)
  rw [e, Int.mul_comm b a] at h1
  have hk0 : k ≠ 0 := by intro hz; subst hz; apply h; rw [show a * b = wrap64 (a * b) by omega]; exact hk2
  unfold In64 at hb
  omega
/-- a digit set behind those of a number -/
def pushN (n d : Int) : Int := if In64 (n * 10) then capN (n * 10 + d) else 0
def pushE (n d : Int) : Int := if In64 (n * 10) then capE (n * 10 + d) else 9
/-- the lower and the upper half of 128 bits -/
def lo64 (x : Int) : Int := x % 18446744073709551616
def hi64 (x : Int) : Int := x / 18446744073709551616
theorem lo64_bd (x : Int) : 0 ≤ lo64 x ∧ lo64 x ≤ 18446744073709551615 := by unfold lo64; omega
theorem sum_yes (s x : Int) (p : Bool) (hs : 0 ≤ s) (hx : x = if p then -s else s) (h : sgnB (lo64 s) p = true) :
    ansN (sgnN (lo64 s) p) (hi64 s == 0) = capN x ∧ ansE (hi64 s == 0) = capE x := by
  by_cases hc : hi64 s = 0
  · have e : lo64 s = s := by unfold lo64 hi64 at *; omega
    rw [e] at h ⊢
    have := ref_val hs hx
    rw [h] at this
    simpa [hc] using this
  · have hn : ¬ In64 x := by unfold hi64 at hc; unfold In64; subst hx; cases p <;> simp <;> omega
    have e : (hi64 s == 0) = false := by simpa using hc
    rw [capN_out hn, capE_out hn, e]
    exact ⟨rfl, rfl⟩
theorem sum_no (s x : Int) (p : Bool) (hs : 0 ≤ s) (hx : x = if p then -s else s) (h : ¬ sgnB (lo64 s) p = true) :
    ansN (sgnN (lo64 s) p) false = capN x ∧ ansE false = capE x := by
  have hn : ¬ In64 x := by
    intro hi
    apply h
    have e : lo64 s = s := by unfold lo64; unfold In64 at hi; subst hx; cases p <;> simp at hi <;> omega
    rw [e]
    unfold In64 at hi; subst hx; unfold sgnB; cases p <;> simp at hi ⊢ <;> omega
  rw [capN_out hn, capE_out hn]
  exact ⟨rfl, rfl⟩

theorem add_same (a b : Int) (p : Bool) (g : a < 0 ↔ b < 0) (hp : p = true ↔ b < 0) : a + b = if p then -(mag a + mag b) else mag a + mag b := by
  cases p
  · have : ¬ b < 0 := by simpa using hp
    rw [mag_pos (by omega), mag_pos (by omega)]; simp
  · have : b < 0 := by simpa using hp
    rw [mag_neg (by omega), mag_neg (by omega)]; simp; omega
theorem add_ge (a b : Int) (g : ¬ (a < 0 ↔ b < 0)) : a + b = if decide (a < 0) then -(mag a - mag b) else mag a - mag b := by
  by_cases h : a < 0
  · rw [mag_neg h, mag_pos (by omega)]; simp [h]; omega
  · rw [mag_pos (by omega), mag_neg (by omega)]; simp [h]
theorem add_lt (a b : Int) (g : ¬ (a < 0 ↔ b < 0)) : a + b = if decide (b < 0) then -(mag b - mag a) else mag b - mag a := by
  rw [Int.add_comm]; exact add_ge b a (by omega)
theorem sub_diff (a b : Int) (g : ¬ (a < 0 ↔ b < 0)) : a - b = if decide (a < 0) then -(mag a + mag b) else mag a + mag b := by
  by_cases h : a < 0
  · rw [mag_neg h, mag_pos (by omega)]; simp [h]; omega
  · rw [mag_pos (by omega), mag_neg (by omega)]; simp [h]; omega
theorem sub_ge (a b : Int) (p : Bool) (g : a < 0 ↔ b < 0) (hp : p = true ↔ a < 0) : a - b = if p then -(mag a - mag b) else mag a - mag b := by
  cases p
  · have : ¬ a < 0 := by simpa using hp
    rw [mag_pos (by omega), mag_pos (by omega)]; simp
  · have : a < 0 := by simpa using hp
    rw [mag_neg (by omega), mag_neg (by omega)]; simp; omega
theorem sub_lt (a b : Int) (p : Bool) (g : a < 0 ↔ b < 0) (hp : p = true ↔ ¬ a < 0) : a - b = if p then -(mag b - mag a) else mag b - mag a := by
  cases p
  · have : a < 0 := by simpa using hp
    rw [mag_neg (by omega), mag_neg (by omega)]; simp; omega
  · have : ¬ a < 0 := by simpa using hp
    rw [mag_pos (by omega), mag_pos (by omega)]; simp; omega
theorem neg_is (a : Int) : -a = if decide (0 < a) then -mag a else mag a := by
  by_cases h : 0 < a
  · rw [mag_pos (by omega)]; simp [h]
  · simp [h]; unfold mag; split <;> omega
theorem mag_abs (a : Int) : mag a = (a.natAbs : Int) := by unfold mag; split <;> omega
theorem mul_is (a b : Int) (p : Bool) (hp : p = true ↔ ¬ (a < 0 ↔ b < 0)) : a * b = if p then -(mag a * mag b) else mag a * mag b := by
  by_cases h : a < 0 <;> by_cases h' : b < 0 <;> simp [h, h'] at hp <;> subst hp
  · rw [mag_neg h, mag_neg h']; simp [Int.neg_mul_neg]
  · rw [mag_neg h, mag_pos (by omega)]; simp [Int.neg_mul]
  · rw [mag_pos (by omega), mag_neg h']; simp [Int.mul_neg]
  · rw [mag_pos (by omega), mag_pos (by omega)]; simp
theorem quo_is (a b : Int) (p : Bool) (hp : p = true ↔ ¬ (a < 0 ↔ b < 0)) : a.tdiv b = if p then -(mag a / mag b) else mag a / mag b := by
  have e : ∀ x y : Int, 0 ≤ x → x / y = x.tdiv y := fun x y h => (Int.tdiv_eq_ediv_of_nonneg h).symm
  by_cases h : a < 0 <;> by_cases h' : b < 0 <;> simp [h, h'] at hp <;> subst hp
  · rw [mag_neg h, mag_neg h', e _ _ (by omega)]; simp [Int.tdiv_neg, Int.neg_tdiv]
  · rw [mag_neg h, mag_pos (by omega), e _ _ (by omega)]; simp [Int.neg_tdiv]
  · rw [mag_pos (by omega), mag_neg h', e _ _ (by omega)]; simp [Int.tdiv_neg]
  · rw [mag_pos (by omega), mag_pos (by omega), e _ _ (by omega)]; simp
theorem rem_is (a b : Int) : a.tmod b = if decide (a < 0) then -(mag a % mag b) else mag a % mag b := by
  have e : ∀ x y : Int, 0 ≤ x → x % y = x.tmod y := fun x y h => (Int.tmod_eq_emod_of_nonneg h).symm
  by_cases h : a < 0 <;> by_cases h' : b < 0 <;> simp [h]
  · rw [mag_neg h, mag_neg h', e _ _ (by omega)]; simp [Int.tmod_neg, Int.neg_tmod]
  · rw [mag_neg h, mag_pos (by omega), e _ _ (by omega)]; simp [Int.neg_tmod]
  · rw [mag_pos (by omega), mag_neg h', e _ _ (by omega)]; simp [Int.tmod_neg]
  · rw [mag_pos (by omega), mag_pos (by omega), e _ _ (by omega)]
theorem div_cap (a b : Int) (ha : In64 a) (h0 : b ≠ 0) : capN (a.tdiv b) = divN a b ∧ capE (a.tdiv b) = divE a b := by
  by_cases h1 : a = -9223372036854775808 ∧ b = -1
  · obtain ⟨rfl, rfl⟩ := h1; decide
  · have := quo_64' a b ha h0 h1
    rw [divN_else h0 h1, divE_else h0 h1, capN_in this, capE_in this]; exact ⟨rfl, rfl⟩
theorem mod_64 (a b : Int) (hb : In64 b) (h0 : b ≠ 0) : In64 (a.tmod b) := by
  have h : (a.tmod b).natAbs < b.natAbs := by rw [Int.natAbs_tmod]; exact Nat.mod_lt _ (by omega)
  unfold In64 at *; omega
theorem mod_cap (a b : Int) (hb : In64 b) (h0 : b ≠ 0) : capN (a.tmod b) = modN a b ∧ capE (a.tmod b) = modE b := by
  have := mod_64 a b hb h0
  rw [capN_in this, capE_in this, modN, modE, if_neg h0, if_neg h0]; exact ⟨rfl, rfl⟩

/-- digits, one behind the other: the number so far and its error -/
def readStep (x : Int × Int) (c : UInt8) : Int × Int := if x.2 = 0 then (pushN x.1 ((c.toNat : Int) - 48), pushE x.1 ((c.toNat : Int) - 48)) else x
def readL (l : List UInt8) : Int × Int := l.foldl readStep (0, 0)
def isDig (c : UInt8) : Bool := decide (48 ≤ c.toNat) && decide (c.toNat ≤ 57)
def readN (l : List UInt8) : Int := if l ≠ [] ∧ l.all isDig then (readL l).1 else 0
def readE (l : List UInt8) : Int := if l ≠ [] ∧ l.all isDig then (readL l).2 else 3
theorem readL_nil : readL [] = (0, 0) := rfl
theorem readL_snoc (l : List UInt8) (c : UInt8) : readL (l ++ [c]) = readStep (readL l) c := by unfold readL; rw [List.foldl_append]; rfl
theorem pushN_64 (n d : Int) : In64 (pushN n d) := by
  unfold pushN; split
  · exact capN_64 _
  · unfold In64; omega
theorem readL_64 (l : List UInt8) : In64 (readL l).1 := by
  have h : ∀ (l : List UInt8) (x : Int × Int), In64 x.1 → In64 (l.foldl readStep x).1 := by
    intro l
    induction l with
    | nil => intro x h; exact h
    | cons c r ih =>
      intro x h
      refine ih _ ?_
      unfold readStep
      split
      · exact pushN_64 _ _
      · exact h
  exact h l _ (by unfold In64; omega)
theorem readN_64 (l : List UInt8) : In64 (readN l) := by
  unfold readN; split
  · exact readL_64 l
  · unfold In64; omega
theorem prod_64 (a b : Int) (ha : In64 a) : In64 (a.tdiv b * b) := by
  have h1 := Int.mul_tdiv_add_tmod a b
  rw [Int.mul_comm] at h1
  have h2 : (a.tmod b).natAbs ≤ a.natAbs := by rw [Int.natAbs_tmod]; exact Nat.mod_le _ _
  have h3 : 0 ≤ a → 0 ≤ a.tmod b := fun h => Int.tmod_nonneg b h
  have h4 : a ≤ 0 → a.tmod b ≤ 0 := fun h => by
    have := Int.tmod_nonneg b (show 0 ≤ -a by omega)
    rw [Int.neg_tmod] at this
    omega
  unfold In64 at *
  omega
end Go.Proofs.Ythghnhcopmmmpaa.Nums
/- Memory words of our own (no type of the program is named): cells from an address on, slices, blocks known whole, what a call leaves alone. -/
namespace Go.Proofs.Ythghnhcopmmmpaa.Mem
open Go.RowKit Go.Proofs.Ythghnhcopmmmpaa.Nums
set_option linter.unusedVariables false
set_option maxRecDepth 100000

theorem add_block (a : Addr) (n : Nat) : (a.add n).block = a.block := by unfold Addr.add; split <;> rfl
theorem add_flat (g j : Nat) : (⟨g, 0, none⟩ : Addr).add j = ⟨g, j, none⟩ := by unfold Addr.add; split <;> simp_all
theorem add_two (a : Addr) (i j : Nat) : (a.add i).add j = a.add (i + j) := by
  unfold Addr.add
  by_cases hi : i = 0 <;> by_cases hj : j = 0 <;> simp [hi, hj, Nat.add_assoc]

/-- The cells from an address on, all below block B. -/
def At (w : World) (B : Nat) (ad : Addr) (xs : List Value) : Prop := ad.block < B ∧ ∀ j u, xs[j]? = some u → w.cell? (ad.add j) = some u
/-- A slice value of n elements (sz cells each) whose cells are xs, below block B. -/
def Lies (w : World) (B sz : Nat) (v : Value) (n : Nat) (xs : List Value) : Prop :=
  xs.length = n * sz ∧ ((v = .slice none 0 0 ∧ n = 0) ∨ ∃ ad c, v = .slice (some ad) n c ∧ n ≤ c ∧ (0 < n → At w B ad xs))

section
variable {w w' : World} {B B' sz n : Nat} {v : Value} {xs : List Value} {ad : Addr}
theorem At.keep (h : At w B ad xs) (hk : ∀ p : Addr, p.block < B → w'.cell? p = w.cell? p) : At w' B ad xs :=
  ⟨h.1, fun j u hu => (hk _ (by rw [add_block]; exact h.1)).trans (h.2 j u hu)⟩
theorem At.below (h : At w B ad xs) (hb : Below B w w') : At w' B ad xs := h.keep fun _ hp => hb.cell hp
theorem At.more (h : At w B ad xs) (hB : B ≤ B') : At w B' ad xs := ⟨Nat.lt_of_lt_of_le h.1 hB, h.2⟩
theorem At.at_ (h : At w B ad xs) {j : Nat} {u : Value} (hu : xs[j]? = some u) : w.cell? (ad.add j) = some u := h.2 j u hu
theorem At.drop (h : At w B ad xs) (k : Nat) : At w B (ad.add k) (xs.drop k) :=
  ⟨by rw [add_block]; exact h.1, fun j u hu => by rw [add_two]; exact h.2 _ u (by rw [← hu, List.getElem?_drop])⟩
theorem At.take (h : At w B ad xs) (k : Nat) : At w B ad (xs.take k) :=
  ⟨h.1, fun j u hu => h.2 j u (by rw [List.getElem?_take] at hu; split at hu; exact hu; cases hu)⟩
theorem Lies.nil (w : World) (B sz : Nat) : Lies w B sz (.slice none 0 0) 0 [] := ⟨by simp, .inl ⟨rfl, rfl⟩⟩
theorem Lies.below (h : Lies w B sz v n xs) (hb : Below B w w') : Lies w' B sz v n xs := by
  rcases h with ⟨hl, h | ⟨ad, c, hv, hc, ha⟩⟩
  · exact ⟨hl, .inl h⟩
  · exact ⟨hl, .inr ⟨ad, c, hv, hc, fun hn => (ha hn).below hb⟩⟩
theorem Lies.more (h : Lies w B sz v n xs) (hB : B ≤ B') : Lies w B' sz v n xs := by
  rcases h with ⟨hl, h | ⟨ad, c, hv, hc, ha⟩⟩
  · exact ⟨hl, .inl h⟩
  · exact ⟨hl, .inr ⟨ad, c, hv, hc, fun hn => (ha hn).more hB⟩⟩
theorem Lies.some_ (h : At w B ad xs) (hl : xs.length = n * sz) {c : Nat} (hc : n ≤ c) : Lies w B sz (.slice (some ad) n c) n xs := ⟨hl, .inr ⟨ad, c, rfl, hc, fun _ => h⟩⟩
theorem Lies.of_own {base : Nat} {e : TypeId} (h : w.ownsRow base e sz v n xs) : Lies w w.heap.size sz v n xs := by
  refine ⟨h.1, ?_⟩
  rcases h.2 with h0 | ⟨g, cap, cur, hv, hb, hg, hc, hm, hs, ht⟩
  · exact .inl h0
  · subst hv
    exact .inr ⟨⟨g, 0, none⟩, cap, rfl, hc, fun hn => ⟨(Array.getElem?_eq_some_iff.1 hg).1, h.cells (g := g) rfl⟩⟩
end

/-- From w to w' nothing has turned but v's own block, and there are new ones; v' lies in v's block, or in a new one. -/
def Kin (w w' : World) (v v' : Value) : Prop := w.grownBy w' v.ownBlock ∧ (v'.ownBlock = v.ownBlock ∨ ∃ g, v'.ownBlock = some g ∧ w.heap.size ≤ g)
theorem Kin.refl (w : World) (v : Value) : Kin w w v v := ⟨⟨rfl, rfl, rfl, Nat.le_refl _, fun _ _ _ => rfl⟩, .inl rfl⟩
theorem Kin.size {w w' : World} {v v' : Value} (h : Kin w w' v v') : w.heap.size ≤ w'.heap.size := h.1.size
theorem Kin.trans {a b c : World} {v v1 v2 : Value} (h : Kin a b v v1) (k : Kin b c v1 v2) : Kin a c v v2 := by
  refine ⟨⟨k.1.os.trans h.1.os, k.1.tape.trans h.1.tape, k.1.output.trans h.1.output, Nat.le_trans h.1.size k.1.size, fun i hi hne => ?_⟩, ?_⟩
  · refine (k.1.block i (Nat.lt_of_lt_of_le hi h.1.size) ?_).trans (h.1.block i hi hne)
    rcases h.2 with e | ⟨g, e, hg⟩
    · rw [e]; exact hne
    · rw [e]; intro x; injection x with x; omega
  · rcases k.2 with e | ⟨g, e, hg⟩
    · rw [e]; exact h.2
    · exact .inr ⟨g, e, Nat.le_trans h.1.size hg⟩
theorem Kin.before {w0 w w' : World} {v v' : Value} (hb : Below w0.heap.size w0 w) (h : Kin w w' v v') (hv : v.ownBlock = none ∨ ∃ g, v.ownBlock = some g ∧ g < w0.heap.size) : Kin w0 w' v v' := by
  refine ⟨⟨h.1.os.trans hb.os, h.1.tape.trans hb.tape, h.1.output.trans hb.output, Nat.le_trans hb.size h.1.size, fun i hi hne => (h.1.block i (Nat.lt_of_lt_of_le hi hb.size) hne).trans (hb.block i hi)⟩, ?_⟩
  rcases h.2 with e | ⟨g, e, hg⟩
  · exact .inl e
  · exact .inr ⟨g, e, Nat.le_trans hb.size hg⟩
theorem Kin.alloc (w : World) (o : Obj) (v : Value) : Kin w (w.alloc o) v v := ⟨World.grownBy_alloc w o _, .inl rfl⟩
theorem Kin.drew {w w' : World} {v v' : Value} (h : Kin w w' v v') : Kin w w'.drew v v' := ⟨⟨h.1.os, h.1.tape, h.1.output, h.1.size, h.1.block⟩, h.2⟩
theorem Kin.of_below {w w' : World} (h : Below w.heap.size w w') (v : Value) : Kin w w' v v := ⟨⟨h.os, h.tape, h.output, h.size, fun k hk _ => h.block k hk⟩, .inl rfl⟩
theorem Kin.cell {w w' : World} {v v' : Value} (h : Kin w w' v v') {a : Addr} {u : Value} (hc : w.cell? a = some u) (hne : v.ownBlock ≠ some a.block) : w'.cell? a = some u := h.1.cell hc (Ne.symm hne)
theorem Kin.below {w w' : World} {v v' : Value} {B : Nat} (h : Kin w w' v v') (hB : B ≤ w.heap.size) (hv : ∀ k, v.ownBlock = some k → B ≤ k) : Below B w w' := (Below.refl B w).grown h.1 hB hv
/-- A block that has just been laid. -/
theorem at_new (w : World) (cs : Array Value) (t : TypeId) : At (w.alloc (.cells cs t)) (w.heap.size + 1) ⟨w.heap.size, 0, none⟩ cs.toList :=
  ⟨by show w.heap.size < _; omega, World.news_of_block (heap_alloc_new w _)⟩

section
variable {P : Program} (w : World)
theorem run_append_nothing (base : Nat) (t ty e : TypeId) (i : TypeInfo) (size : Nat) (ht : P.underlying t = some (.slice e)) (hi : P.info? e = some i)
    (v : Value) (n : Nat) (xs : List Value) (hown : w.ownsRow base e size v n xs) : (Builtin.append_ #[t, t] ty #[v, .slice none 0 0]).run P w = .ok v w :=
  run_append_owned_none w base t ty e i size ht hi v n xs hown

/-- append onto a slice of the call's own, of whatever lies somewhere. -/
theorem run_append_mem (base : Nat) (t ty e : TypeId) (i : TypeInfo) (z : Value) (size bytes : Nat) (ht : P.underlying t = some (.slice e)) (hi : P.info? e = some i) (hz : i.zero = some z)
    (hsize : i.size = size) (hby : i.bytes = bytes) (hzs : z.cells.size = size) (hsz : 0 < size)
    (v : Value) (n : Nat) (xs : List Value) (hown : w.ownsRow base e size v n xs)
    (B : Nat) (x : Value) (m : Nat) (news : List Value) (hx : Lies w B size x m news) (h1 : ∀ u ∈ news, u.oneCell' = true)
    (h63 : n + m ≤ maxLen) (hbytes : (n + m) * bytes ≤ 140737488355328) (hbase : base ≤ w.heap.size) :
    ∃ v' w', (Builtin.append_ #[t, t] ty #[v, x]).run P w = .ok v' w' ∧ w'.ownsRow base e size v' (n + m) (xs ++ news) ∧ Kin w w' v v' := by
  rcases hx with ⟨hl, ⟨rfl, rfl⟩ | ⟨ad, c, rfl, hc, ha⟩⟩
  · have hn : news = [] := List.eq_nil_of_length_eq_zero (by simpa using hl)
    subst hn
    exact ⟨v, w, run_append_owned_none w base t ty e i size ht hi v n xs hown, by simpa using hown, Kin.refl w v⟩
  · have hcells : ∀ j u, news[j]? = some u → w.cell? (ad.add j) = some u := by
      rcases Nat.eq_zero_or_pos m with h0 | h0
      · subst h0
        have hn : news = [] := List.eq_nil_of_length_eq_zero (by simpa using hl)
        subst hn
        intro j u hu
        simp at hu
      · exact (ha h0).2
    obtain ⟨v', w', hr, h2, h3, _, h5⟩ := run_append_own_at (P := P) w base t ty e i z size bytes ht hi hz hsize hby hzs hsz v n xs hown ad m c news hl hcells h1 h63 hbytes hbase
    exact ⟨v', w', hr, h2, h3, h5.elim .inl fun h => .inr ⟨_, h, Nat.le_refl _⟩⟩

theorem wp_append_mem {o : Oper} {a : Act} {K : Act → World → Prop} {Q : Exit → Act → World → Prop} (s x : Operand) (t : TypeId)
    (ho : o.op = .call { callee := .builtin .append, args := #[s, x], argTypes := #[t, t] })
    (base : Nat) (e : TypeId) (i : TypeInfo) (z : Value) (size bytes : Nat) (ht : P.underlying t = some (.slice e)) (hi : P.info? e = some i) (hz : i.zero = some z)
    (hsize : i.size = size) (hby : i.bytes = bytes) (hzs : z.cells.size = size) (hsz : 0 < size)
    (v : Value) (n : Nat) (xs : List Value) (hs : a.eval s = v) (hown : w.ownsRow base e size v n xs)
    (B : Nat) (y : Value) (m : Nat) (news : List Value) (hy : a.eval x = y) (hx : Lies w B size y m news) (h1 : ∀ u ∈ news, u.oneCell' = true)
    (h63 : n + m ≤ maxLen) (hbytes : (n + m) * bytes ≤ 140737488355328) (hbase : base ≤ w.heap.size)
    (h : ∀ v' w', w'.ownsRow base e size v' (n + m) (xs ++ news) → Kin w w' v v' → K (a.put o.dst v') w') : o.wp P a w K Q := by
  obtain ⟨v', w', hr, h2, h3⟩ := run_append_mem (P := P) w base t o.type e i z size bytes ht hi hz hsize hby hzs hsz v n xs hown B y m news hx h1 h63 hbytes hbase
  unfold Oper.wp execOp
  simp only [ho, resolve, invoke, builtin, Sem.run_bind, Sem.run_pure, Result.andThen_ok, List.map_toArray, List.map_cons, List.map_nil, hs, hy, hr]
  exact h v' w' h2 h3

theorem run_append_text_at (base : Nat) (t u ty e : TypeId) (i : TypeInfo) (ht : P.underlying t = some (.slice e)) (hu : P.underlying u = some .string) (hi : P.info? e = some i) (hz : i.zero = some (.int .u8 0))
    (hsize : i.size = 1) (hby : i.bytes = 1) (v : Value) (n : Nat) (xs : List Value) (hown : w.ownsRow base e 1 v n xs) (s : ByteArray)
    (h63 : n + s.size ≤ maxLen) (hbytes : n + s.size ≤ 140737488355328) (hbase : base ≤ w.heap.size) :
    ∃ v' w', (Builtin.append_ #[t, u] ty #[v, .string s]).run P w = .ok v' w' ∧ w'.ownsRow base e 1 v' (n + s.size) (xs ++ Lib.strCells s) ∧ Kin w w' v v' := by
  obtain ⟨v', w', hr, h2, h3, h4⟩ := Lib.run_append_own_string (P := P) w base t u ty e i ht hu hi hz hsize hby v n xs hown s h63 hbytes hbase
  refine ⟨v', w', hr, h2, h3, ?_⟩
  have hsmall : n + s.size ≤ 9223372036854775807 := by simp only [maxLen] at h63; omega
  rcases hown.2 with ⟨rfl, rfl⟩ | ⟨g, cap, cur, rfl, hbg, hg, hnc, hcm, hcs, htake⟩
  · by_cases hm : s.size = 0
    · left; rw [h4.2 ⟨rfl, hm⟩]
    · have hr2 := run_append_nil_string (P := P) w t u ty e i (.int .u8 0) ht hu hi hz s (by omega) (by omega) (by rw [hby]; omega)
      rw [hr] at hr2
      injection hr2 with hv _
      exact .inr ⟨w.heap.size, by rw [hv]; rfl, Nat.le_refl _⟩
  · by_cases hroom : n + s.size ≤ cap
    · have hcs' : cur.size = cap := by simpa using hcs
      have hr2 := Lib.run_append_room_string (P := P) w t u ty e i ht hu hi hsize g n cap cur hg s hroom (by omega)
      rw [hr] at hr2
      injection hr2 with hv _
      left; rw [hv]; rfl
    · have holds : ∀ j u, xs[j]? = some u → w.cell? ((⟨g, 0, none⟩ : Addr).add j) = some u := hown.cells (g := g) rfl
      have hxl : xs.length = n := by simpa using hown.1
      have hr2 := Lib.run_append_grow_string (P := P) w t u ty e i (.int .u8 0) ht hu hi hz ⟨g, 0, none⟩ n cap xs (by rw [hsize]; simpa using hxl) holds s (by omega) (by omega) (by rw [hby]; exact growslice_fits (by omega) (by omega))
      rw [hr] at hr2
      injection hr2 with hv _
      exact .inr ⟨w.heap.size, by rw [hv]; rfl, Nat.le_refl _⟩
/-- append onto a slice of bytes of the call's own, of a text. -/
theorem wp_append_text {o : Oper} {a : Act} {K : Act → World → Prop} {Q : Exit → Act → World → Prop} (s x : Operand) (t u : TypeId)
    (ho : o.op = .call { callee := .builtin .append, args := #[s, x], argTypes := #[t, u] })
    (base : Nat) (e : TypeId) (i : TypeInfo) (ht : P.underlying t = some (.slice e)) (hu : P.underlying u = some .string) (hi : P.info? e = some i) (hz : i.zero = some (.int .u8 0))
    (hsize : i.size = 1) (hby : i.bytes = 1)
    (v : Value) (n : Nat) (xs : List Value) (hs : a.eval s = v) (hown : w.ownsRow base e 1 v n xs) (str : ByteArray) (hy : a.eval x = .string str)
    (h63 : n + str.size ≤ maxLen) (hbytes : n + str.size ≤ 140737488355328) (hbase : base ≤ w.heap.size)
    (h : ∀ v' w', w'.ownsRow base e 1 v' (n + str.size) (xs ++ Lib.strCells str) → Kin w w' v v' → K (a.put o.dst v') w') : o.wp P a w K Q := by
  obtain ⟨v', w', hr, h2, h3⟩ := run_append_text_at (P := P) w base t u o.type e i ht hu hi hz hsize hby v n xs hown str h63 hbytes hbase
  unfold Oper.wp execOp
  simp only [ho, resolve, invoke, builtin, Sem.run_bind, Sem.run_pure, Result.andThen_ok, List.map_toArray, List.map_cons, List.map_nil, hs, hy, hr]
  exact h v' w' h2 h3
end
theorem size_alloc (w : World) (o : Obj) : (w.alloc o).heap.size = w.heap.size + 1 := by show (w.heap.push _).size = _; rw [Array.size_push]
theorem lies_lit (w : World) (cs : Array Value) (t : TypeId) (sz n : Nat) (h : cs.size = n * sz) : Lies (w.alloc (.cells cs t)) (w.heap.size + 1) sz (.slice (some ⟨w.heap.size, 0, none⟩) n n) n cs.toList :=
  Lies.some_ (at_new w cs t) (by rw [Array.length_toList]; exact h) (Nat.le_refl _)
theorem lies_at (w : World) (cs : Array Value) (t : TypeId) (sz n H : Nat) (hH : w.heap.size = H) (h : cs.size = n * sz) : Lies (w.alloc (.cells cs t)) (H + 1) sz (.slice (some ⟨H, 0, none⟩) n n) n cs.toList := by
  subst hH; exact lies_lit w cs t sz n h
theorem one1 (k : IntKind) (a : Int) : ∀ u ∈ (#[Value.int k a]).toList, u.oneCell' = true := by intro u hu; simp at hu; subst hu; rfl
theorem ints_one (k : IntKind) (l : List Int) : ∀ u ∈ l.map (Value.int k), u.oneCell' = true := by
  intro u hu
  simp only [List.mem_map] at hu
  obtain ⟨b, _, rfl⟩ := hu
  rfl
theorem add_succ (p : Addr) (j : Nat) : p.add (j + 1) = ⟨p.block, p.off + (j + 1), none⟩ := by unfold Addr.add; rw [if_neg (by omega)]
theorem bel_alloc (w : World) (o : Obj) : Below w.heap.size w (w.alloc o) := (Below.refl _ _).alloc (Nat.le_refl _) o
theorem bel_trans {a b c : World} (h : Below a.heap.size a b) (k : Below b.heap.size b c) : Below a.heap.size a c := h.trans (k.mono h.size)
/-- A slice '.slice A n c', nil let in, whose cells are xs, below block B. -/
structure Sl (w : World) (B sz : Nat) (A : Option Addr) (n c : Nat) (xs : List Value) : Prop where
  len : xs.length = n * sz
  le : n ≤ c
  cap : c ≤ maxLen
  nil : A = none → c = 0
  at_ : 0 < n → ∃ ad, A = some ad ∧ At w B ad xs
section
variable {w w' : World} {B B' sz n c : Nat} {A : Option Addr} {xs : List Value} {v : Value}
theorem Sl.below (h : Sl w B sz A n c xs) (hb : Below B w w') : Sl w' B sz A n c xs :=
  ⟨h.len, h.le, h.cap, h.nil, fun hn => by obtain ⟨ad, e, ha⟩ := h.at_ hn; exact ⟨ad, e, ha.below hb⟩⟩
theorem Sl.more (h : Sl w B sz A n c xs) (hB : B ≤ B') : Sl w B' sz A n c xs :=
  ⟨h.len, h.le, h.cap, h.nil, fun hn => by obtain ⟨ad, e, ha⟩ := h.at_ hn; exact ⟨ad, e, ha.more hB⟩⟩
theorem Sl.on (h : Sl w w.heap.size sz A n c xs) (hb : Below w.heap.size w w') : Sl w' w'.heap.size sz A n c xs := (h.below hb).more hb.size
theorem Sl.lies (h : Sl w B sz A n c xs) : Lies w B sz (.slice A n c) n xs := by
  refine ⟨h.len, ?_⟩
  cases A with
  | none =>
    have hc := h.nil rfl
    have hn : n = 0 := by have := h.le; omega
    subst hc hn
    exact .inl ⟨rfl, rfl⟩
  | some ad => exact .inr ⟨ad, c, rfl, h.le, fun hn => by obtain ⟨ad', e, ha⟩ := h.at_ hn; injection e with e; subst e; exact ha⟩
theorem Sl.take (h : Sl w B sz A n c xs) {k : Nat} (hk : k ≤ n) : Sl w B sz A k c (xs.take (k * sz)) :=
  ⟨by rw [List.length_take, h.len]; exact Nat.min_eq_left (Nat.mul_le_mul_right _ hk), Nat.le_trans hk h.le, h.cap, h.nil, fun h0 => by obtain ⟨ad, e, ha⟩ := h.at_ (by omega); exact ⟨ad, e, ha.take _⟩⟩
theorem Sl.of_own {base : Nat} {e : TypeId} (h : w.ownsRow base e sz v n xs) : ∃ A c, v = .slice A n c ∧ Sl w w.heap.size sz A n c xs := by
  rcases h.2 with ⟨rfl, rfl⟩ | ⟨g, cap, cur, rfl, hb, hg, hc, hm, hs, ht⟩
  · exact ⟨none, 0, rfl, h.1, Nat.le_refl _, by unfold maxLen; omega, fun _ => rfl, fun h => absurd h (by omega)⟩
  · exact ⟨some ⟨g, 0, none⟩, cap, rfl, h.1, hc, hm, (fun e => by cases e), fun hn => ⟨_, rfl, (Array.getElem?_eq_some_iff.1 hg).1, h.cells (g := g) rfl⟩⟩
end
/-- A block that is known whole. -/
def Blk (w : World) (g : Nat) (t : TypeId) (cs : Array Value) : Prop := w.heap[g]? = some (.cells cs t (0, 0))
section
variable {w w' : World} {g : Nat} {t : TypeId} {cs : Array Value}
theorem Blk.lt (h : Blk w g t cs) : g < w.heap.size := (Array.getElem?_eq_some_iff.1 h).1
theorem Blk.cell (h : Blk w g t cs) (i : Nat) : w.cell? ⟨g, i, none⟩ = cs[i]? := cell_of_row w g i cs t (0, 0) h
theorem Blk.frozen (h : Blk w g t cs) (i : Nat) : w.frozen? ⟨g, i, none⟩ = false := by
  unfold Blk at h
  simp [World.frozen?, h]
theorem Blk.new (w : World) (t : TypeId) (cs : Array Value) : Blk (w.alloc (.cells cs t)) w.heap.size t cs := heap_alloc_new w _
theorem Blk.alloc (h : Blk w g t cs) (o : Obj) : Blk (w.alloc o) g t cs := (Below.heap_alloc w o g h.lt).trans h
theorem Blk.set_ (h : Blk w g t cs) (i : Nat) (u : Value) : Blk (w.setCell ⟨g, i, none⟩ u) g t (cs.setIfInBounds i u) := by
  unfold Blk at h ⊢
  simp [World.setCell, Array.getElem?_modify, h]
theorem Blk.far (h : Blk w g t cs) {p : Addr} (hp : g ≠ p.block) (u : Value) : Blk (w.setCell p u) g t cs := (Below.heap_setCell w p u g hp).trans h
theorem Blk.below {B : Nat} (h : Blk w g t cs) (hb : Below B w w') (hg : g < B) : Blk w' g t cs := (hb.block g hg).trans h
theorem Blk.ne_ {g' : Nat} {t' : TypeId} {cs' : Array Value} (h : Blk w g t cs) (h' : Blk w g' t' cs') (hne : t ≠ t') : g ≠ g' := by
  rintro rfl
  unfold Blk at h h'
  rw [h] at h'
  injection h' with h'
  injection h' with _ ht
  exact hne ht
theorem own_blk_ne {base : Nat} {e : TypeId} {size n : Nat} {v : Value} {xs : List Value} (h : w.ownsRow base e size v n xs) (hg : Blk w g t cs) (hne : e ≠ t) : v.ownBlock ≠ some g := by
  rcases h.2 with ⟨rfl, _⟩ | ⟨g', cap, cur, rfl, _, hh, _⟩
  · simp [Value.ownBlock]
  · intro he
    have : g' = g := by simpa [Value.ownBlock] using he
    subst this
    exact Blk.ne_ (t := e) hh hg hne rfl
end
/-- From w to w' nothing has turned but block P and v's own block, and there are new ones; v' lies in v's block, or in a new one. -/
structure Far (w w' : World) (P : Nat) (v v' : Value) : Prop where
  os : w'.os = w.os
  tape : w'.tape = w.tape
  output : w'.output = w.output
  size : w.heap.size ≤ w'.heap.size
  block : ∀ k, k < w.heap.size → k ≠ P → v.ownBlock ≠ some k → w'.heap[k]? = w.heap[k]?
  lies : v'.ownBlock = v.ownBlock ∨ ∃ g, v'.ownBlock = some g ∧ w.heap.size ≤ g
section
variable {w w' : World} {P : Nat} {v v' : Value}
theorem Far.refl (w : World) (P : Nat) (v v' : Value) (h : v'.ownBlock = v.ownBlock) : Far w w P v v' := ⟨rfl, rfl, rfl, Nat.le_refl _, fun _ _ _ _ => rfl, .inl h⟩
theorem Far.below {B : Nat} (h : Far w w' P v v') (hB : B ≤ w.heap.size) (hP : B ≤ P) (hv : ∀ g, v.ownBlock = some g → B ≤ g) : Below B w w' :=
  ⟨h.os, h.tape, h.output, h.size, fun k hk => h.block k (by omega) (by omega) (fun e => by have := hv k e; omega)⟩
theorem Far.blk {g : Nat} {t : TypeId} {cs : Array Value} (h : Far w w' P v v') (hb : Blk w g t cs) (h1 : g ≠ P) (h2 : v.ownBlock ≠ some g) : Blk w' g t cs := (h.block g hb.lt h1 h2).trans hb
theorem own_keep {base sz n : Nat} {e : TypeId} {u : Value} {xs : List Value} (h : w.ownsRow base e sz u n xs) (hk : ∀ g, u.ownBlock = some g → w'.heap[g]? = w.heap[g]?) : w'.ownsRow base e sz u n xs := by
  refine ⟨h.1, ?_⟩
  rcases h.2 with h0 | ⟨g, cap, cur, rfl, hb, hg, rest⟩
  · exact .inl h0
  · exact .inr ⟨g, cap, cur, rfl, hb, (hk g rfl).trans hg, rest⟩
theorem Far.own {base sz n : Nat} {e : TypeId} {u : Value} {xs : List Value} (h : Far w w' P v v') (ho : w.ownsRow base e sz u n xs) (hP : u.ownBlock ≠ some P) (hv : ∀ g, u.ownBlock = some g → v.ownBlock ≠ some g) : w'.ownsRow base e sz u n xs :=
  own_keep ho fun g hg => h.block g (ho.lt g hg).2 (fun e => hP (by rw [hg, e])) (hv g hg)
theorem Far.of_kin {u : Value} (h : Kin w w' v v') : Far w w' P v v' := ⟨h.1.os, h.1.tape, h.1.output, h.1.size, fun k hk _ hv => h.1.block k hk (Ne.symm hv), h.2⟩
end
end Go.Proofs.Ythghnhcopmmmpaa.Mem
/- package room: its map in memory; New, Set, Find, Get, Pages. -/
namespace Go.Proofs.Ythghnhcopmmmpaa.Room
open Go.RowKit Go.Proofs.Ythghnhcopmmmpaa.Nums Go.Proofs.Ythghnhcopmmmpaa.Mem
set_option linter.unusedVariables false
set_option linter.unusedSimpArgs false
set_option maxRecDepth 100000
theorem infoI : (Try.prog.info? 3).map (fun i => (i.zero, i.size, i.bytes)) = some (some (.int .i64 0), 1, 8) := by kernel_rfl
def ints (l : List Int) : List Value := l.map (Value.int .i64)
theorem ints_len (l : List Int) : (ints l).length = l.length := by simp [ints]
theorem ints_at {l : List Int} {k : Nat} {x : Int} (h : l[k]? = some x) : (ints l)[k]? = some (.int .i64 x) := by simp [ints, h]
theorem ints_app (a b : List Int) : ints (a ++ b) = ints a ++ ints b := by simp [ints]
theorem ints_one' (l : List Int) : ∀ u ∈ ints l, u.oneCell' = true := ints_one .i64 l
def OwnI (w : World) (B : Nat) (v : Value) (n : Nat) (xs : List Value) : Prop := w.ownsRow B 3 1 v n xs
theorem OwnI.alloc {w : World} {B : Nat} {v : Value} {n : Nat} {xs : List Value} (h : OwnI w B v n xs) (o : Obj) : OwnI (w.alloc o) B v n xs := World.ownsRow.alloc h o
theorem own_eqI {w : World} {B : Nat} {v : Value} {n n' : Nat} {xs xs' : List Value} (h : OwnI w B v n xs) (hn : n = n') (hx : xs = xs') : OwnI w B v n' xs' := by subst hn hx; exact h
theorem wpl_app_i {w : World} {ops : Array Oper} {rest : List Oper} {o : Oper} {a : Act} {Q : Exit → Act → World → Prop} (hgd : o.guard = none) (s x : Operand)
    (ho : o.op = .call { callee := .builtin .append, args := #[s, x], argTypes := #[155, 155] })
    (base : Nat) (v : Value) (n : Nat) (xs : List Value) (hs : a.eval s = v) (hown : OwnI w base v n xs)
    (B : Nat) (y : Value) (m : Nat) (news : List Value) (hy : a.eval x = y) (hx : Lies w B 1 y m news) (h1 : ∀ u ∈ news, u.oneCell' = true)
    (hbytes : n + m ≤ 1000000) (hbase : base ≤ w.heap.size)
    (h : ∀ v' w', OwnI w' base v' (n + m) (xs ++ news) → Kin w w' v v' → wpList Try.prog ops Q rest (a.put o.dst v') w') : wpList Try.prog ops Q (o :: rest) a w := by
  obtain ⟨i, hi, hz0, hz1, hz2⟩ := info_parts infoI
  exact wpList_plain hgd fun _ hK => wp_append_mem w s x _ ho base 3 i _ 1 8 Try.underlying155 hi hz0 hz1 hz2 rfl (by omega) v n xs hs hown B y m news hy hx h1 (by unfold maxLen; omega) (by omega) hbase fun v' w' h2 h3 => hK _ _ (h v' w' h2 h3)

/-- the map at block P (of type T): its slice, and the rooms L in it -/
structure MapAt (w : World) (base : Nat) (T : TypeId) (P : Nat) (A : Option Addr) (c : Nat) (L : List Int) : Prop where
  blk : Blk w P T #[.slice A L.length c]
  own : OwnI w base (.slice A L.length c) L.length (ints L)
  ge : base ≤ P
def clamp (r : Int) : Int := min (max r (-1)) 512
/-- what Set answers, and the rooms behind it -/
def setR (L : List Int) (p r : Int) : Int × List Int :=
  if p < 0 ∨ 256 ≤ p then (1, L) else if (L.length : Int) < p then (3, L) else if p = L.length then (0, L ++ [clamp r]) else (0, L.set p.toNat (clamp r))
theorem setR_len {L : List Int} {p r : Int} (h : L.length ≤ 256) : (setR L p r).2.length ≤ 256 := by
  unfold setR
  split
  · exact h
  split
  · exact h
  split
  · rw [List.length_append]; simp; omega
  · rw [List.length_set]; exact h
/-- the first of those from place k on that is at least m -/
def findAt (m : Int) : List Int → Nat → Int × Bool
  | [], _ => (0, false)
  | r :: l, k => if m ≤ r then ((k : Int), true) else findAt m l (k + 1)
def findR (L : List Int) (need : Int) : Int × Bool := findAt (max need 0) L 0
def getR (L : List Int) (p : Int) : Int := if p < 0 ∨ (L.length : Int) ≤ p then -1 else L.getD p.toNat (-1)
section
variable {w w' : World} {base P : Nat} {T : TypeId} {A : Option Addr} {c : Nat} {L : List Int}
theorem MapAt.le (h : MapAt w base T P A c L) : L.length ≤ c ∧ c ≤ maxLen := by
  obtain ⟨A', c', e, hs⟩ := Sl.of_own h.own
  injection e with _ _ e
  subst e
  exact ⟨hs.le, hs.cap⟩
theorem MapAt.cell (h : MapAt w base T P A c L) : w.cell? ⟨P, 0, none⟩ = some (.slice A L.length c) := h.blk.cell 0
theorem MapAt.frozen (h : MapAt w base T P A c L) : w.frozen? ⟨P, 0, none⟩ = false := h.blk.frozen 0
theorem MapAt.form (h : MapAt w base T P A c L) {k : Nat} (hk : k < L.length) : ∃ g, A = some ⟨g, 0, none⟩ ∧ w.cell? ⟨g, k, none⟩ = some (.int .i64 L[k]) ∧ w.frozen? ⟨g, k, none⟩ = false := by
  obtain ⟨g, cap, hv, _, _⟩ := World.ownsRow.form h.own (by omega)
  injection hv with hA _ hc
  subst hA hc
  refine ⟨g, rfl, ?_, World.ownsRow.frozenAt h.own k⟩
  rw [World.ownsRow.cellAt h.own k (by omega)]
  exact ints_at (List.getElem?_eq_getElem hk)
theorem MapAt.own_ge (h : MapAt w base T P A c L) : ∀ g, (Value.slice A L.length c).ownBlock = some g → base ≤ g := fun g hg => (World.ownsRow.lt h.own g hg).1
end
theorem new_any (w : World) : Calls Try.prog 87 #[] w fun e w' => e = .returned (.pointer (some ⟨w.heap.size, 0, none⟩)) ∧ w' = w.alloc (.cells #[.slice none 0 0] 157) := by
  go_enter Try.func87, Try.ntmps87
  go_wp2_with fail
  go_ret
  exact ⟨rfl, rfl⟩
theorem map_new (w : World) (T : TypeId) : MapAt (w.alloc (.cells #[.slice none 0 0] T)) w.heap.size T w.heap.size none 0 [] := ⟨Blk.new w T _, World.ownsRow_nil _ _ _ _, Nat.le_refl _⟩
theorem pages_any {w : World} {base P : Nat} {A : Option Addr} {c : Nat} {L : List Int} (h : MapAt w base 157 P A c L) :
    Calls Try.prog 100 #[.pointer (some ⟨P, 0, none⟩)] w fun e w' => e = .returned (.int .i64 L.length) ∧ w = w' := by
  have hc := h.cell
  clear h
  go_enter Try.func100, Try.ntmps100
  go_wp2_with fail
  go_ret
  exact ⟨rfl, rfl⟩
theorem findAt_step {m : Int} {L : List Int} {k : Nat} {x : Int} (h : L[k]? = some x) : findAt m (L.drop k) k = if m ≤ x then ((k : Int), true) else findAt m (L.drop (k + 1)) (k + 1) := by
  obtain ⟨hk, e⟩ := List.getElem?_eq_some_iff.1 h
  rw [List.drop_eq_getElem_cons hk, e]
  rfl
theorem find_any {w : World} {base P : Nat} {A : Option Addr} {c : Nat} {L : List Int} (h : MapAt w base 157 P A c L) (need : Int) :
    Calls Try.prog 92 #[.pointer (some ⟨P, 0, none⟩), .int .i64 need] w fun e w' => e = .returned (.tuple #[.int .i64 (findR L need).1, .bool (findR L need).2]) ∧ w = w' := by
  have H := Lib.hid h
  have hc := h.cell
  have hle := h.le
  unfold maxLen at hle
  rcases (show (need < 0 ∧ max need 0 = 0) ∨ (¬ need < 0 ∧ max need 0 = need) by omega) with ⟨hn, hm⟩ | ⟨hn, hm⟩
  all_goals
    obtain ⟨m, hm'⟩ : ∃ m, max need 0 = m := ⟨_, rfl⟩
    have HF : Hid (findR L need = findAt m L 0) := Lib.hid (by unfold findR; rw [hm'])
    have HM := Lib.hid (hm.symm.trans hm')
    clear h hm hm'
    go_enter Try.func92, Try.ntmps92
    go_wp2_with fail
    refine (pages_any H.out).mono ?_
    rintro e w' ⟨rfl, rfl⟩
    rw [HM.out]
    go_wp2_with fail
    go_loop [11] (fun i => ∃ k : Nat, k ≤ L.length ∧ i = .int .i64 k ∧ findAt m L 0 = findAt m (L.drop k) k) (fun i => L.length - (intOf i).toNat)
    case atStart => exact ⟨0, by omega, rfl, rfl⟩
    case round =>
      obtain ⟨k, hk, rfl, hfk⟩ := hrel
      have HK := Lib.hid hfk
      clear hfk
      by_cases hlt : k < L.length
      · obtain ⟨g, rfl, x0, _⟩ := H.out.form hlt
        obtain ⟨x, hx⟩ : ∃ x, L[k] = x := ⟨_, rfl⟩
        have HX := Lib.hid (findAt_step (m := m) (show L[k]? = some x by rw [List.getElem?_eq_getElem hlt, hx]))
        rw [hx] at x0
        clear hx
        have hlt' : (k : Int) < L.length := by omega
        by_cases hmx : m ≤ x
        · have HY : Hid (findR L need = ((k : Int), true)) := Lib.hid (by rw [HF.out, HK.out, HX.out, if_pos hmx])
          go_wp2_with fail
          go_ret2
          exact ⟨by rw [HY.out]; rfl, rfl⟩
        · have HY : Hid (findAt m L 0 = findAt m (L.drop (k + 1)) (k + 1)) := Lib.hid (by rw [HK.out, HX.out, if_neg hmx])
          go_wp2_with fail
          go_round
          case rel => exact ⟨k + 1, by omega, by go_num, HY.out⟩
          case measure => simp [intOf]; omega
      · obtain rfl : k = L.length := by omega
        have HY : Hid (findR L need = (0, false)) := Lib.hid (by rw [HF.out, HK.out, List.drop_length]; rfl)
        go_wp2_with fail
        go_ret2
        exact ⟨by rw [HY.out]; rfl, rfl⟩
end Go.Proofs.Ythghnhcopmmmpaa.Room
/- package room: Set. -/
namespace Go.Proofs.Ythghnhcopmmmpaa.Room
open Go.RowKit Go.Proofs.Ythghnhcopmmmpaa.Nums Go.Proofs.Ythghnhcopmmmpaa.Mem
set_option linter.unusedVariables false
set_option linter.unusedSimpArgs false
set_option maxRecDepth 100000
section
variable {w w1 : World} {base P : Nat} {T : TypeId} {A : Option Addr} {c : Nat} {L L1 : List Int}
theorem far_kin {o : Obj} {v v1 : Value} (hg : Kin (w.alloc o) w1 v v1) : Far w w1 P v v1 := by
  have hs : w.heap.size ≤ w1.heap.size := by have := hg.size; rw [size_alloc] at this; omega
  refine ⟨hg.1.os, hg.1.tape, hg.1.output, hs, fun k hk _ hv => ?_, ?_⟩
  · exact (hg.1.block k (by rw [size_alloc]; omega) (Ne.symm hv)).trans (Below.heap_alloc w o k hk)
  · rcases hg.2 with e | ⟨g, e, h⟩
    · exact .inl e
    · exact .inr ⟨g, e, by rw [size_alloc] at h; omega⟩
theorem put_done (h : MapAt w base T P A c L) (hT : 3 ≠ T) {v1 : Value} (hown1 : OwnI w1 base v1 L1.length (ints L1)) (hb1 : Blk w1 P T #[.slice A L.length c]) (hF : Far w w1 P (.slice A L.length c) v1) :
    ∃ A' c', v1 = .slice A' L1.length c' ∧ MapAt (w1.setCell ⟨P, 0, none⟩ v1) base T P A' c' L1 ∧ Far w (w1.setCell ⟨P, 0, none⟩ v1) P (.slice A L.length c) v1 := by
  obtain ⟨A', c', rfl, _⟩ := Sl.of_own hown1
  refine ⟨A', c', rfl, ⟨Blk.set_ hb1 0 _, own_keep hown1 fun g hg => ?_, h.ge⟩, ?_⟩
  · refine Below.heap_setCell w1 _ _ g ?_
    intro e
    exact own_blk_ne hown1 hb1 hT (by rw [hg, e])
  · refine ⟨hF.os, hF.tape, hF.output, ?_, fun k hk hP hv => ?_, hF.lies⟩
    · have : (w1.setCell ⟨P, 0, none⟩ (.slice A' L1.length c')).heap.size = w1.heap.size := by simp [World.setCell]
      rw [this]
      exact hF.size
    · exact (Below.heap_setCell w1 _ _ k hP).trans (hF.block k hk hP hv)
theorem at_done (h : MapAt w base T P A c L) (hT : 3 ≠ T) {g k : Nat} (hA : A = some ⟨g, 0, none⟩) (x : Int) :
    MapAt (w.setCell ⟨g, k, none⟩ (.int .i64 x)) base T P A c (L.set k x) ∧ Far w (w.setCell ⟨g, k, none⟩ (.int .i64 x)) P (.slice A L.length c) (.slice A (L.set k x).length c) := by
  subst hA
  have hst := World.ownsRow.stored h.own k (.int .i64 x)
  have hgP : P ≠ g := fun e => own_blk_ne h.own h.blk hT (by rw [e]; rfl)
  have hl : (L.set k x).length = L.length := List.length_set
  refine ⟨⟨?_, ?_, h.ge⟩, ?_⟩
  · rw [hl]
    exact h.blk.far hgP _
  · have e : ints (L.set k x) = (ints L).set k (.int .i64 x) := by unfold ints; rw [List.map_set]
    rw [hl, e]
    exact hst.1
  · rw [hl]
    refine ⟨hst.2.os, hst.2.tape, hst.2.output, hst.2.size, fun j hj _ hv => hst.2.block j hj (Ne.symm hv), .inl rfl⟩
end
def SPost (w : World) (base : Nat) (T : TypeId) (P : Nat) (A : Option Addr) (c : Nat) (L : List Int) (p r : Int) (e : Ending) (w' : World) : Prop :=
  e = .returned (.int .i64 (setR L p r).1) ∧ ∃ A' c', MapAt w' base T P A' c' (setR L p r).2 ∧ Far w w' P (.slice A L.length c) (.slice A' (setR L p r).2.length c')
theorem spost_same {w : World} {base P : Nat} {T : TypeId} {A : Option Addr} {c : Nat} {L : List Int} (h : MapAt w base T P A c L) {p r x : Int} (hx : setR L p r = (x, L)) : SPost w base T P A c L p r (.returned (.int .i64 x)) w := by
  unfold SPost
  rw [hx]
  exact ⟨rfl, A, c, h, Far.refl _ _ _ _ rfl⟩
theorem set_nil (w : World) (p r : Int) : Calls Try.prog 90 #[.pointer none, .int .i64 p, .int .i64 r] w fun e w' => e = .returned (.int .i64 15) ∧ w = w' := by
  go_enter Try.func90, Try.ntmps90
  go_wp2_with fail
  go_ret
  exact ⟨rfl, rfl⟩
theorem set_any {w : World} {base P : Nat} {A : Option Addr} {c : Nat} {L : List Int} (h : MapAt w base 157 P A c L) (hL : L.length ≤ 256) (hB : base ≤ w.heap.size) (p r : Int) :
    Calls Try.prog 90 #[.pointer (some ⟨P, 0, none⟩), .int .i64 p, .int .i64 r] w (SPost w base 157 P A c L p r) := by
  have H := Lib.hid h
  have hc := h.cell
  have hf := h.frozen
  by_cases h0 : p < 0
  · have HS : Hid (setR L p r = (1, L)) := Lib.hid (if_pos (.inl h0))
    clear h
    go_enter Try.func90, Try.ntmps90
    go_wp2_with fail
    go_ret
    exact spost_same H.out HS.out
  by_cases h1 : 256 ≤ p
  · have HS : Hid (setR L p r = (1, L)) := Lib.hid (if_pos (.inr h1))
    have h0' : decide (p < 0) = false := by simpa using h0
    clear h
    go_enter Try.func90, Try.ntmps90
    go_wp2_with fail
    go_ret
    exact spost_same H.out HS.out
  obtain ⟨k, rfl⟩ : ∃ k : Nat, p = k := ⟨p.toNat, by omega⟩
  by_cases h2 : L.length < k
  · have h2' : (L.length : Int) < k := by omega
    have HS : Hid (setR L k r = (3, L)) := Lib.hid (by unfold setR; rw [if_neg (by omega), if_pos h2'])
    clear h h0
    go_enter Try.func90, Try.ntmps90
    go_wp2_with fail
    go_ret
    exact spost_same H.out HS.out
  rcases (show (r < -1 ∧ min (max r (-1)) 512 = -1) ∨ (¬ r < -1 ∧ 512 < r ∧ min (max r (-1)) 512 = 512) ∨ (¬ r < -1 ∧ ¬ 512 < r ∧ min (max r (-1)) 512 = r) by omega) with ⟨r1, hx⟩ | ⟨r1, r2, hx⟩ | ⟨r1, r2, hx⟩
  all_goals
    obtain ⟨x, hx'⟩ : ∃ x, min (max r (-1)) 512 = x := ⟨_, rfl⟩
    have HX := Lib.hid (hx.symm.trans hx')
    clear hx
    by_cases h3 : k = L.length
    · subst h3
      have HS : Hid (setR L L.length r = (0, L ++ [x])) := Lib.hid (by unfold setR; rw [if_neg (by omega), if_neg (by omega), if_pos rfl]; show (0, L ++ [min (max r (-1)) 512]) = _; rw [hx'])
      have HO := Lib.hid h.own
      clear h h0 h2 hx'
      go_enter Try.func90, Try.ntmps90
      go_wp2_with (at_builtin; go_loud (refine wpl_app_i rfl (.tmp 39) (.tmp 41) rfl base _ L.length (ints L) rfl (HO.out.alloc _) _ _ 1 _ rfl (lies_lit _ _ _ 1 1 rfl) (one1 _ _) (by omega) (by rw [size_alloc]; omega) ?_; intro v1 w1 hown1 hg1; obtain ⟨A1, c1, hv1, _⟩ := Sl.of_own hown1; subst hv1; have hb1 : Blk w1 P 157 _ := (hg1.1.block P (H.out.blk.alloc _).lt (Ne.symm (own_blk_ne H.out.own H.out.blk (by decide)))).trans (H.out.blk.alloc _); have hc1 := hb1.cell 0; have hf1 := hb1.frozen 0))
      have hown2 : OwnI w1 base (.slice A1 (L.length + 1) c1) (L ++ [x]).length (ints (L ++ [x])) := own_eqI hown1 (by simp) (by rw [ints_app, ← HX.out]; rfl)
      obtain ⟨A', c', hv, hM, hF⟩ := put_done H.out (by decide) hown2 hb1 (far_kin hg1)
      go_ret
      unfold SPost
      rw [HS.out]
      have hl : (L ++ [x]).length = L.length + 1 := by simp
      rw [hl] at hv
      injection hv with e1 _ e2
      subst e1 e2
      refine ⟨rfl, A1, c1, hM, ?_⟩
      show Far _ _ _ _ (.slice A1 (L ++ [x]).length c1)
      rw [hl]
      exact hF
    · have hk : k < L.length := by omega
      obtain ⟨g, hA, y0, yf⟩ := h.form hk
      have HS : Hid (setR L k r = (0, L.set k x)) := Lib.hid (by unfold setR; rw [if_neg (by omega), if_neg (by omega), if_neg (by omega), Int.toNat_natCast]; show (0, L.set k (min (max r (-1)) 512)) = _; rw [hx'])
      obtain ⟨hM, hF⟩ := at_done (k := k) h (by decide) hA x
      rw [← HX.out] at hM hF HS
      have HM := Lib.hid hM
      have HFF := Lib.hid hF
      have hne : ((k : Int) == (L.length : Int)) = false := by rw [beq_eq_false_iff_ne]; omega
      have hle := h.le
      unfold maxLen at hle
      subst hA
      clear h h0 h2 h3 hx' hM hF
      go_enter Try.func90, Try.ntmps90
      go_wp2_with fail
      go_ret
      unfold SPost
      rw [HS.out]
      exact ⟨rfl, _, c, HM.out, HFF.out⟩
end Go.Proofs.Ythghnhcopmmmpaa.Room
/- page.read, page.write; a page's block. -/
namespace Go.Proofs.Ythghnhcopmmmpaa.Mem
open Go.RowKit Go.Proofs.Ythghnhcopmmmpaa.Nums
set_option linter.unusedVariables false
set_option linter.unusedSimpArgs false
set_option maxRecDepth 100000
/-- bytes as cells -/
def u8s (l : List UInt8) : List Value := l.map fun b => Value.int .u8 (b.toNat : Int)
theorem u8s_len (l : List UInt8) : (u8s l).length = l.length := by simp [u8s]
theorem u8s_one (l : List UInt8) : ∀ u ∈ u8s l, u.oneCell' = true := by
  intro u hu
  simp only [u8s, List.mem_map] at hu
  obtain ⟨b, _, rfl⟩ := hu
  rfl
theorem u8s_app (a b : List UInt8) : u8s (a ++ b) = u8s a ++ u8s b := by simp [u8s]
theorem u8s_take (x : List UInt8) (k : Nat) : (u8s x).take k = u8s (x.take k) := by simp [u8s, List.map_take]
theorem u8s_get {l : List UInt8} {j : Nat} {b : UInt8} (h : l[j]? = some b) : (u8s l)[j]? = some (.int .u8 (b.toNat : Int)) := by simp [u8s, h]
theorem u8s_at {w : World} {B : Nat} {ad : Addr} {l : List UInt8} (h : At w B ad (u8s l)) {j : Nat} {b : UInt8} (hb : l[j]? = some b) : w.cell? (ad.add j) = some (.int .u8 (b.toNat : Int)) := h.2 j _ (u8s_get hb)
theorem len_of {w : World} {B n c : Nat} {A : Option Addr} {x : List UInt8} (h : Sl w B 1 A n c (u8s x)) : x.length = n := by have := h.len; rw [u8s_len] at this; omega
theorem take_succ_of {α : Type} {l : List α} {k : Nat} {v : α} (h : l[k]? = some v) : l.take (k + 1) = l.take k ++ [v] := by
  obtain ⟨h1, h2⟩ := List.getElem?_eq_some_iff.1 h
  rw [List.take_succ_eq_append_getElem h1, h2]
/-- the number that bytes make, the lowest first -/
def leN : List UInt8 → Nat
  | [] => 0
  | b :: l => b.toNat + 256 * leN l
theorem leN_snoc (l : List UInt8) (b : UInt8) : leN (l ++ [b]) = leN l + b.toNat * 2 ^ (8 * l.length) := by
  induction l with
  | nil => simp [leN]
  | cons a l ih =>
    show a.toNat + 256 * leN (l ++ [b]) = a.toNat + 256 * leN l + b.toNat * 2 ^ (8 * (l.length + 1))
    have e : 256 * (b.toNat * 2 ^ (8 * l.length)) = b.toNat * 2 ^ (8 * (l.length + 1)) := by
      rw [show 8 * (l.length + 1) = 8 * l.length + 8 by omega, Nat.pow_add, Nat.mul_left_comm, Nat.mul_comm 256]
    rw [ih, Nat.mul_add, e, Nat.add_assoc]
theorem leN_lt (l : List UInt8) : leN l < 2 ^ (8 * l.length) := by
  induction l with
  | nil => simp [leN]
  | cons a l ih =>
    show a.toNat + 256 * leN l < 2 ^ (8 * (l.length + 1))
    rw [show 8 * (l.length + 1) = 8 * l.length + 8 by omega, Nat.pow_add]
    have := a.toNat_lt
    omega
theorem or_at (Z k : Nat) (b : UInt8) (hZ : Z < 2 ^ (8 * k)) (hk : k < 8) : bits .or .u64 (Z : Int) (IntKind.u64.wrap (IntKind.u64.wrap (b.toNat : Int) * 2 ^ (8 * k))) = ((Z + b.toNat * 2 ^ (8 * k) : Nat) : Int) := by
  have hb := b.toNat_lt
  have hp : 2 ^ (8 * k) ≤ 2 ^ 56 := Nat.pow_le_pow_right (by omega) (by omega)
  have hm : b.toNat * 2 ^ (8 * k) ≤ 255 * 2 ^ 56 := Nat.mul_le_mul (by omega) hp
  have e1 : IntKind.u64.wrap (b.toNat : Int) = ((b.toNat : Nat) : Int) := by rw [IntKind.wrap_u64]; omega
  have e2 : ((b.toNat : Nat) : Int) * 2 ^ (8 * k) = ((b.toNat * 2 ^ (8 * k) : Nat) : Int) := by push_cast; rfl
  have e3 := Nat.shiftLeft_add_eq_or_of_lt (i := 8 * k) (b := Z) hZ b.toNat
  rw [Nat.shiftLeft_eq] at e3
  rw [e1, e2]
  obtain ⟨M, hM⟩ : ∃ M, b.toNat * 2 ^ (8 * k) = M := ⟨_, rfl⟩
  rw [hM] at hm e3 ⊢
  have e4 : IntKind.u64.wrap (M : Int) = ((M : Nat) : Int) := by rw [IntKind.wrap_u64]; omega
  rw [e4, u64_or_nat _ _ (by omega) (by omega), Nat.or_comm, ← e3, Nat.add_comm]
/-- page.read: the number of at most eight bytes, the lowest first; nothing turns -/
theorem read_any (x : List UInt8) (B : Nat) (A : Option Addr) (n c : Nat) (w : World) (hn : n ≤ 8) (hx : Sl w B 1 A n c (u8s x)) :
    Calls Try.prog 72 #[.slice A n c] w fun e w' => e = .returned (.int .u64 (leN x : Nat)) ∧ w = w' := by
  have HL := Lib.hid (len_of hx)
  have HX := Lib.hid hx
  have hle := hx.le
  have hcap := hx.cap
  unfold maxLen at hcap
  clear hx
  go_enter Try.func72, Try.ntmps72
  go_wp2_with fail
  go_loop [3, 8] (fun u i => ∃ k : Nat, k ≤ n ∧ i = .int .i64 k ∧ u = .int .u64 (leN (x.take k) : Nat)) (fun _ i => n - (intOf i).toNat)
  case atStart => exact ⟨0, by omega, rfl, rfl⟩
  case round =>
    obtain ⟨k, hk, rfl, rfl⟩ := hrel
    by_cases hlt : k < n
    · have hlt' : (k : Int) < n := by omega
      obtain ⟨b, hb⟩ : ∃ b, x[k]? = some b := ⟨_, List.getElem?_eq_getElem (by rw [HL.out]; omega)⟩
      obtain ⟨ad, hA, hAt⟩ := HX.out.at_ (by omega)
      subst hA
      have x0 := u8s_at hAt hb
      have HS : Hid (leN (x.take (k + 1)) = leN (x.take k) + b.toNat * 2 ^ (8 * k)) := Lib.hid (by rw [take_succ_of hb, leN_snoc, List.length_take, Nat.min_eq_left (by rw [HL.out]; omega)])
      have hlt2 : leN (x.take k) < 2 ^ (8 * k) := by
        have h1 := leN_lt (x.take k)
        rwa [List.length_take, Nat.min_eq_left (by rw [HL.out]; omega)] at h1
      have h8k : (8 : Int) * k ≤ 56 := by omega
      have h8z : (0 : Int) ≤ 8 * k := by omega
      have h8n : ((8 : Int) * k).toNat = 8 * k := by omega
      have h8w : IntKind.i64.wrap ((8 : Int) * k) = 8 * k := by rw [IntKind.wrap_i64]; omega
      generalize leN (x.take k) = Z at *
      have HZ := Lib.hid hlt2
      clear hb hlt2 hAt
      go_wp2_with fail
      go_round
      case rel =>
        refine ⟨k + 1, by omega, by go_num, ?_⟩
        rw [or_at Z k b HZ.out (by omega), HS.out]
      case measure => simp [intOf]; omega
    · obtain rfl : k = n := by omega
      have e : x.take k = x := List.take_of_length_le (by rw [HL.out]; exact Nat.le_refl _)
      rw [e]
      clear e
      go_wp2_with fail
      go_ret
      exact ⟨rfl, rfl⟩
/-- the lowest m bytes of a number -/
def nb (U m : Nat) : List UInt8 := (List.range m).map fun k => UInt8.ofNat (U / 2 ^ (8 * k))
theorem nb_len (U m : Nat) : (nb U m).length = m := by simp [nb]
theorem nb_get (U m k : Nat) (hk : k < m) : (nb U m)[k]? = some (UInt8.ofNat (U / 2 ^ (8 * k))) := by simp [nb, hk]
theorem nb_succ (U k : Nat) : nb U (k + 1) = nb U k ++ [UInt8.ofNat (U / 2 ^ (8 * k))] := by simp [nb, List.range_succ]
theorem leN_nb (U : Nat) : ∀ m, U < 2 ^ (8 * m) → leN (nb U m) = U := by
  have h : ∀ m, leN (nb U m) = U % 2 ^ (8 * m) := by
    intro m
    induction m with
    | zero => simp [nb, leN, Nat.mod_one]
    | succ m ih =>
      rw [nb_succ, leN_snoc, nb_len, ih]
      have e : (UInt8.ofNat (U / 2 ^ (8 * m))).toNat = U / 2 ^ (8 * m) % 256 := by simp
      rw [e, show 8 * (m + 1) = 8 * m + 8 by omega, Nat.pow_add, Nat.mod_mul, Nat.mul_comm (2 ^ (8 * m))]
  intro m hm
  rw [h, Nat.mod_eq_of_lt hm]
/-- X with b laid over it from a on -/
def lay (X : List UInt8) (a : Nat) (b : List UInt8) : List UInt8 := X.take a ++ b ++ X.drop (a + b.length)
theorem lay_len {X b : List UInt8} {a : Nat} (h : a + b.length ≤ X.length) : (lay X a b).length = X.length := by
  unfold lay
  rw [List.length_append, List.length_append, List.length_take, List.length_drop]
  omega
theorem lay_nil (X : List UInt8) (a : Nat) : lay X a [] = X := by
  unfold lay
  rw [List.length_nil, List.append_nil, Nat.add_zero, List.take_append_drop]
theorem lay_set {X b : List UInt8} {a : Nat} (h : a + b.length < X.length) (d : UInt8) : (lay X a b).set (a + b.length) d = lay X a (b ++ [d]) := by
  unfold lay
  have h1 : (X.take a ++ b).length = a + b.length := by rw [List.length_append, List.length_take]; omega
  rw [List.set_append_right _ _ (by rw [h1]; exact Nat.le_refl _), h1, Nat.sub_self]
  have h2 : X.drop (a + b.length) = X[a + b.length] :: X.drop (a + b.length + 1) := List.drop_eq_getElem_cons h
  rw [h2, List.set_cons_zero, List.length_append, List.length_singleton, List.append_assoc, List.append_assoc, List.append_assoc, Nat.add_assoc]
  rfl
theorem lay_get {X b : List UInt8} {a : Nat} (h : a + b.length ≤ X.length) {j : Nat} (hj : j < b.length) : (lay X a b)[a + j]? = b[j]? := by
  unfold lay
  have h1 : (X.take a).length = a := by rw [List.length_take]; omega
  rw [List.append_assoc, List.getElem?_append_right (by rw [h1]; omega), h1, Nat.add_sub_cancel_left, List.getElem?_append_left hj]
theorem lay_other {X b : List UInt8} {a : Nat} (h : a + b.length ≤ X.length) {j : Nat} (hj : j < a ∨ a + b.length ≤ j) : (lay X a b)[j]? = X[j]? := by
  unfold lay
  have h1 : (X.take a).length = a := by rw [List.length_take]; omega
  rcases hj with hj | hj
  · rw [List.append_assoc, List.getElem?_append_left (by rw [h1]; exact hj), List.getElem?_take, if_pos hj]
  · rw [List.getElem?_append_right (by rw [List.length_append, h1]; exact hj), List.length_append, h1, List.getElem?_drop]
    congr 1
    omega
/-- a block of bytes, known whole -/
def BB (w : World) (g : Nat) (t : TypeId) (X : List UInt8) : Prop := Blk w g t (u8s X).toArray
section
variable {w w' : World} {g : Nat} {t : TypeId} {X : List UInt8}
theorem BB.cell (h : BB w g t X) {i : Nat} {b : UInt8} (hb : X[i]? = some b) : w.cell? ⟨g, i, none⟩ = some (.int .u8 (b.toNat : Int)) := by
  rw [Blk.cell h, List.getElem?_toArray]
  exact u8s_get hb
theorem BB.frozen (h : BB w g t X) (i : Nat) : w.frozen? ⟨g, i, none⟩ = false := Blk.frozen h i
theorem BB.put (h : BB w g t X) (i : Nat) (b : UInt8) : BB (w.setCell ⟨g, i, none⟩ (.int .u8 (b.toNat : Int))) g t (X.set i b) := by
  have h1 := Blk.set_ h i (.int .u8 (b.toNat : Int))
  unfold BB
  have e : u8s (X.set i b) = (u8s X).set i (.int .u8 (b.toNat : Int)) := by unfold u8s; rw [List.map_set]
  rw [e, ← List.setIfInBounds_toArray]
  exact h1
theorem BB.at_ (h : BB w g t X) (a m : Nat) : At w w.heap.size ⟨g, a, none⟩ (u8s ((X.drop a).take m)) := by
  refine ⟨Blk.lt h, fun j u hu => ?_⟩
  have e : (⟨g, a, none⟩ : Addr).add j = ⟨g, a + j, none⟩ := by unfold Addr.add; split <;> simp_all
  rw [e, Blk.cell h, List.getElem?_toArray]
  unfold u8s at hu ⊢
  rw [List.getElem?_map] at hu ⊢
  rw [List.getElem?_take] at hu
  split at hu
  · rw [List.getElem?_drop] at hu; exact hu
  · cases hu
theorem BB.sl (h : BB w g t X) (a m c : Nat) (hX : a + m ≤ X.length) (hc : m ≤ c) (hcm : c ≤ maxLen) : Sl w w.heap.size 1 (some ⟨g, a, none⟩) m c (u8s ((X.drop a).take m)) :=
  ⟨by rw [u8s_len, List.length_take, List.length_drop]; omega, hc, hcm, (fun e => by cases e), fun _ => ⟨_, rfl, h.at_ a m⟩⟩
end
/-- only block g has turned -/
structure Only (g : Nat) (w w' : World) : Prop where
  os : w'.os = w.os
  tape : w'.tape = w.tape
  output : w'.output = w.output
  size : w.heap.size ≤ w'.heap.size
  block : ∀ k, k < w.heap.size → k ≠ g → w'.heap[k]? = w.heap[k]?
section
variable {w w' w'' : World} {g : Nat}
theorem Only.refl (g : Nat) (w : World) : Only g w w := ⟨rfl, rfl, rfl, Nat.le_refl _, fun _ _ _ => rfl⟩
theorem Only.trans (h : Only g w w') (k : Only g w' w'') : Only g w w'' :=
  ⟨k.os.trans h.os, k.tape.trans h.tape, k.output.trans h.output, Nat.le_trans h.size k.size, fun i hi hg => (k.block i (Nat.lt_of_lt_of_le hi h.size) hg).trans (h.block i hi hg)⟩
theorem Only.set_ (h : Only g w w') (i : Nat) (u : Value) : Only g w (w'.setCell ⟨g, i, none⟩ u) :=
  ⟨h.os, h.tape, h.output, by have := h.size; simpa [World.setCell] using this, fun k hk hg => (Below.heap_setCell w' ⟨g, i, none⟩ u k hg).trans (h.block k hk hg)⟩
theorem Only.below {B : Nat} (h : Only g w w') (hB : B ≤ w.heap.size) (hg : B ≤ g) : Below B w w' := ⟨h.os, h.tape, h.output, h.size, fun k hk => h.block k (by omega) (by omega)⟩
theorem Only.of_below (h : Below w.heap.size w w') : Only g w w' := ⟨h.os, h.tape, h.output, h.size, fun k hk _ => h.block k hk⟩
theorem Only.blk {k : Nat} {t : TypeId} {cs : Array Value} (h : Only g w w') (hb : Blk w k t cs) (hne : k ≠ g) : Blk w' k t cs := (h.block k hb.lt hne).trans hb
end
theorem byte_cell (U k : Nat) : IntKind.u8.wrap ((U : Int) / 2 ^ (8 * k)) = (((UInt8.ofNat (U / 2 ^ (8 * k))).toNat : Nat) : Int) := by
  have e : ((U : Int) / 2 ^ (8 * k)) = ((U / 2 ^ (8 * k) : Nat) : Int) := by push_cast; rfl
  have e2 : (UInt8.ofNat (U / 2 ^ (8 * k))).toNat = U / 2 ^ (8 * k) % 256 := by simp
  rw [e, e2, IntKind.wrap_u8]
  omega
/-- page.write: the lowest bytes of a number laid over a block's -/
theorem write_any (g : Nat) (t : TypeId) (X : List UInt8) (a m c U : Nat) (w : World) (hb : BB w g t X) (hX : a + m ≤ X.length) (hm : m ≤ 8) (hc : m ≤ c) (hcm : c ≤ maxLen) (hU : U < 18446744073709551616) :
    Calls Try.prog 97 #[.slice (some ⟨g, a, none⟩) m c, .int .u64 U] w fun e w' => e = .returned (.tuple #[]) ∧ BB w' g t (lay X a (nb U m)) ∧ Only g w w' := by
  have HB := Lib.hid hb
  have HX := Lib.hid hX
  unfold maxLen at hcm
  clear hb hX
  go_enter Try.func97, Try.ntmps97
  go_wp2_with fail
  go_loopw [7] (fun i wr => ∃ k : Nat, k ≤ m ∧ i = .int .i64 k ∧ BB wr g t (lay X a (nb U k)) ∧ Only g w wr) (fun i _ => m - (intOf i).toNat)
  case atStart => exact ⟨0, by omega, rfl, by rw [show nb U 0 = [] from rfl, lay_nil]; exact HB.out, Only.refl _ _⟩
  case round =>
    obtain ⟨k, hk, rfl, hbk, ho⟩ := hrel
    have HBK := Lib.hid hbk
    have HO := Lib.hid ho
    clear hbk ho
    by_cases hlt : k < m
    · have hlt' : (k : Int) < m := by omega
      have hl := nb_len U k
      have hll := lay_len (X := X) (b := nb U k) (a := a) (by rw [hl]; have := HX.out; omega)
      obtain ⟨d, hd⟩ : ∃ d, (lay X a (nb U k))[a + k]? = some d := ⟨_, List.getElem?_eq_getElem (by rw [hll]; have := HX.out; omega)⟩
      have q0 := HBK.out.cell hd
      have p0 := HBK.out.frozen (a + k)
      have h8k : (8 : Int) * k ≤ 56 := by omega
      have h8z : (0 : Int) ≤ 8 * k := by omega
      have h8n : ((8 : Int) * k).toNat = 8 * k := by omega
      have h8w : IntKind.i64.wrap ((8 : Int) * k) = 8 * k := by rw [IntKind.wrap_i64]; omega
      have hbc := byte_cell U k
      have HP := Lib.hid (HBK.out.put (a + k) (UInt8.ofNat (U / 2 ^ (8 * k))))
      have HN := Lib.hid (lay_set (X := X) (b := nb U k) (a := a) (by rw [hl]; have := HX.out; omega) (UInt8.ofNat (U / 2 ^ (8 * k))))
      have HL := Lib.hid hl
      clear hl hll hd
      go_wp2_with fail
      go_roundw
      case rel =>
        refine ⟨k + 1, by omega, by go_num, ?_, HO.out.set_ _ _⟩
        have h := HP.out
        have h2 := HN.out
        rw [HL.out] at h2
        rw [h2, ← nb_succ] at h
        exact h
      case measure => simp [intOf]; omega
    · obtain rfl : k = m := by omega
      go_wp2_with fail
      exact bodyPost_end (v := .tuple #[]) (by simp [results, Try.results97, go_sem]) rfl ⟨rfl, HBK.out, HO.out⟩
end Go.Proofs.Ythghnhcopmmmpaa.Mem
/- The page's small words: Slots, begin, slot, span, at, next, slotsEnd. -/
namespace Go.Proofs.Ythghnhcopmmmpaa.Mem
open Go.RowKit Go.Proofs.Ythghnhcopmmmpaa.Nums
set_option linter.unusedVariables false
set_option linter.unusedSimpArgs false
set_option maxRecDepth 100000
/-- two bytes at a place, the lowest first -/
def get2 (X : List UInt8) (a : Nat) : Nat := leN ((X.drop a).take 2)
theorem get2_lt (X : List UInt8) (a : Nat) : get2 X a < 65536 := by
  have h1 := leN_lt ((X.drop a).take 2)
  have h2 : ((X.drop a).take 2).length ≤ 2 := by rw [List.length_take]; omega
  have h3 : 2 ^ (8 * ((X.drop a).take 2).length) ≤ 2 ^ 16 := Nat.pow_le_pow_right (by omega) (by omega)
  unfold get2
  omega
/-- the page's block -/
def Pg (w : World) (P : Nat) (X : List UInt8) : Prop := BB w P 113 X ∧ X.length = 512
theorem Pg.sl {w : World} {P : Nat} {X : List UInt8} (h : Pg w P X) (a m : Nat) (hm : a + m ≤ 512) : Sl w w.heap.size 1 (some ⟨P, a, none⟩) m (512 - a) (u8s ((X.drop a).take m)) :=
  BB.sl h.1 a m (512 - a) (by rw [h.2]; exact hm) (by omega) (by unfold maxLen; omega)
theorem slots_pg (P : Nat) (X : List UInt8) (w : World) (hp : Pg w P X) :
    Calls Try.prog 25 #[.pointer (some ⟨P, 0, none⟩)] w fun e w' => e = .returned (.int .i64 (get2 X 0 : Nat)) ∧ w = w' := by
  have C1 := Lib.hid (read_any _ _ _ _ _ w (by omega) (hp.sl 0 2 (by omega)))
  have hg := get2_lt X 0
  have e : leN ((X.drop 0).take 2) = get2 X 0 := rfl
  rw [e] at C1
  clear e hp
  generalize get2 X 0 = G at *
  go_enter Try.func25, Try.ntmps25
  go_wp2_with fail
  refine C1.out.mono ?_
  rintro e w1 ⟨rfl, rfl⟩
  go_wp2_with fail
  go_ret
  exact ⟨rfl, rfl⟩
theorem slots_nil (w : World) : Calls Try.prog 25 #[.pointer none] w fun e w' => e = .returned (.int .i64 0) ∧ w = w' := by
  go_enter Try.func25, Try.ntmps25
  go_wp2_with fail
  go_ret
  exact ⟨rfl, rfl⟩
theorem begin_pg (P : Nat) (X : List UInt8) (w : World) (hp : Pg w P X) :
    Calls Try.prog 79 #[.pointer (some ⟨P, 0, none⟩)] w fun e w' => e = .returned (.int .i64 (get2 X 2 : Nat)) ∧ w = w' := by
  have C1 := Lib.hid (read_any _ _ _ _ _ w (by omega) (hp.sl 2 2 (by omega)))
  have hg := get2_lt X 2
  have e : leN ((X.drop 2).take 2) = get2 X 2 := rfl
  rw [e] at C1
  clear e hp
  generalize get2 X 2 = G at *
  go_enter Try.func79, Try.ntmps79
  go_wp2_with fail
  refine C1.out.mono ?_
  rintro e w1 ⟨rfl, rfl⟩
  go_wp2_with fail
  go_ret
  exact ⟨rfl, rfl⟩
/-- a slot's bytes, in a page of at most so many slots -/
theorem slot_pg (P s : Nat) (w : World) (hs : 4 + 4 * s + 4 ≤ 512) :
    Calls Try.prog 83 #[.pointer (some ⟨P, 0, none⟩), .int .i64 s] w fun e w' => e = .returned (.slice (some ⟨P, 4 + 4 * s, none⟩) 4 (512 - (4 + 4 * s) : Nat)) ∧ w = w' := by
  have h1 : (s : Int) ≤ 126 := by omega
  have h2 : (0 : Int) ≤ 4 + (s : Int) * 4 := by omega
  have h3 : 4 + (s : Int) * 4 ≤ 4 + (s : Int) * 4 + 4 := by omega
  have h4 : 4 + (s : Int) * 4 + 4 ≤ 512 := by omega
  have h5 : (4 + (s : Int) * 4).toNat = 4 + s * 4 := by omega
  have h6 : (4 + (s : Int) * 4 + 4).toNat = 4 + s * 4 + 4 := by omega
  have e : 4 + 4 * s = 4 + s * 4 := by omega
  rw [e]
  clear e hs
  go_enter Try.func83, Try.ntmps83
  go_wp2_with fail
  go_ret
  exact ⟨rfl, rfl⟩
theorem Pg.drewN {w : World} {P : Nat} {X : List UInt8} (h : Pg w P X) (n : Nat) : Pg (w.drewN n) P X := h
theorem rd2 {w : World} {P : Nat} {X : List UInt8} (hp : Pg w P X) (a c : Nat) (ha : a + 2 ≤ 512) (hc : 2 ≤ c) (hcm : c ≤ 512) :
    Calls Try.prog 72 #[.slice (some ⟨P, a, none⟩) 2 c] w fun e w' => e = .returned (.int .u64 (get2 X a : Nat)) ∧ w = w' :=
  read_any _ w.heap.size _ _ _ w (by omega) (BB.sl hp.1 a 2 c (by rw [hp.2]; exact ha) hc (by unfold maxLen; omega))
theorem quiet_of {P : Program} {f : FuncId} {args : Array Value} {w : World} {n : Nat} {v : Value} (h : Calls P f args (w.drewN n) fun e w' => e = .returned v ∧ w.drewN n = w') : Calls P f args (w.drewN n) fun e w'' => e = .returned v ∧ ∃ m, w'' = w.drewN m :=
  h.mono fun _ _ ⟨h1, h2⟩ => ⟨h1, n, h2.symm⟩
theorem span_pg (P s : Nat) (X : List UInt8) (w : World) (hp : Pg w P X) (hs : 4 + 4 * s + 4 ≤ 512) :
    Calls Try.prog 98 #[.pointer (some ⟨P, 0, none⟩), .int .i64 s] w fun e w' => e = .returned (.tuple #[.int .i64 (get2 X (4 + 4 * s) : Nat), .int .i64 (get2 X (6 + 4 * s) : Nat)]) ∧ ∃ m, w' = w.drewN m := by
  have C1 := Lib.hid (slot_pg P s w hs)
  have HP := Lib.hid hp
  have hf := get2_lt X (4 + 4 * s)
  have hz := get2_lt X (6 + 4 * s)
  obtain ⟨a, ha⟩ : ∃ a, 4 + 4 * s = a := ⟨_, rfl⟩
  rw [ha] at C1 hs hf ⊢
  rw [show 6 + 4 * s = a + 2 by omega] at hz ⊢
  obtain ⟨c, hc⟩ : ∃ c, 512 - a = c := ⟨_, rfl⟩
  rw [hc] at C1
  have hc4 : 4 ≤ c := by omega
  have hc5 : c ≤ 512 := by omega
  have hi : (2 : Int) ≤ c := by omega
  have hi4 : (4 : Int) ≤ c := by omega
  have hne : ¬ c = 2 := by omega
  clear ha hc hp
  go_enter Try.func98, Try.ntmps98
  go_wp2_with fail
  refine C1.out.mono ?_
  rintro e w1 ⟨rfl, rfl⟩
  go_wp2_with fail
  go_quiet ((go_at_call 72; exact quiet_of (rd2 (HP.out.drewN _) _ _ (by omega) (by omega) (by omega))))
  go_wp2_with fail
  go_ret2
  exact ⟨rfl, _, rfl⟩
theorem at_neg (P : Nat) (i : Int) (w : World) (hi : i < 0) :
    Calls Try.prog 71 #[.pointer (some ⟨P, 0, none⟩), .int .i64 i] w fun e w' => e = .returned (.slice none 0 0) ∧ w = w' := by
  go_enter Try.func71, Try.ntmps71
  go_wp2_with fail
  go_ret
  exact ⟨rfl, rfl⟩
theorem at_nilneg (i : Int) (w : World) (hi : i < 0) :
    Calls Try.prog 71 #[.pointer none, .int .i64 i] w fun e w' => e = .returned (.slice none 0 0) ∧ w = w' := by
  go_enter Try.func71, Try.ntmps71
  go_wp2_with fail
  go_ret
  exact ⟨rfl, rfl⟩
theorem at_nil (i : Int) (w : World) (hi : ¬ i < 0) :
    Calls Try.prog 71 #[.pointer none, .int .i64 i] w fun e w' => e = .returned (.slice none 0 0) ∧ w = w' := by
  have C1 := Lib.hid (slots_nil w)
  have hi0 : (0 : Int) ≤ i := by omega
  go_enter Try.func71, Try.ntmps71
  go_wp2_with fail
  refine C1.out.mono ?_
  rintro e w1 ⟨rfl, rfl⟩
  go_wp2_with fail
  go_ret
  exact ⟨rfl, rfl⟩
theorem at_over (P : Nat) (X : List UInt8) (i : Int) (w : World) (hp : Pg w P X) (hi : ¬ i < 0) (h2 : (get2 X 0 : Int) ≤ i) :
    Calls Try.prog 71 #[.pointer (some ⟨P, 0, none⟩), .int .i64 i] w fun e w' => e = .returned (.slice none 0 0) ∧ w = w' := by
  have C1 := Lib.hid (slots_pg P X w hp)
  clear hp
  generalize get2 X 0 = G at *
  go_enter Try.func71, Try.ntmps71
  go_wp2_with fail
  refine C1.out.mono ?_
  rintro e w1 ⟨rfl, rfl⟩
  go_wp2_with fail
  go_ret
  exact ⟨rfl, rfl⟩
theorem at_free (P s : Nat) (X : List UInt8) (w : World) (hp : Pg w P X) (h1 : s < get2 X 0) (hs : 4 + 4 * s + 4 ≤ 512) (hz : get2 X (6 + 4 * s) = 0) :
    Calls Try.prog 71 #[.pointer (some ⟨P, 0, none⟩), .int .i64 s] w fun e w' => e = .returned (.slice none 0 0) ∧ ∃ m, w' = w.drewN m := by
  have C1 := Lib.hid (slots_pg P X w hp)
  have C2 := Lib.hid (span_pg P s X w hp hs)
  rw [hz] at C2
  have hi : ¬ (s : Int) < 0 := by omega
  have hi2 : ¬ (get2 X 0 : Int) ≤ s := by omega
  clear hp hz h1 hs
  generalize get2 X 0 = G at *
  generalize get2 X (4 + 4 * s) = F at *
  go_enter Try.func71, Try.ntmps71
  go_wp2_with fail
  refine C1.out.mono ?_
  rintro e w1 ⟨rfl, rfl⟩
  go_wp2_with fail
  refine C2.out.mono ?_
  rintro e w2 ⟨rfl, m, rfl⟩
  go_wp2_with fail
  go_ret
  exact ⟨rfl, _, rfl⟩
theorem at_some (P s f z : Nat) (X : List UInt8) (w : World) (hp : Pg w P X) (h1 : s < get2 X 0) (hs : 4 + 4 * s + 4 ≤ 512) (hf : get2 X (4 + 4 * s) = f) (hz : get2 X (6 + 4 * s) = z) (h0 : z ≠ 0) (h5 : f + z ≤ 512) :
    Calls Try.prog 71 #[.pointer (some ⟨P, 0, none⟩), .int .i64 s] w fun e w' => e = .returned (.slice (some ⟨P, f, none⟩) z (512 - f : Nat)) ∧ ∃ m, w' = w.drewN m := by
  have C1 := Lib.hid (slots_pg P X w hp)
  have C2 := Lib.hid (span_pg P s X w hp hs)
  rw [hz, hf] at C2
  have hi : ¬ (s : Int) < 0 := by omega
  have hi2 : ¬ (get2 X 0 : Int) ≤ s := by omega
  have hz0 : ((z : Int) == 0) = false := by rw [beq_eq_false_iff_ne]; omega
  have k1 : (0 : Int) ≤ f := Int.natCast_nonneg _
  have k2 : (f : Int) ≤ (f : Int) + z := by omega
  have k3 : (f : Int) + z ≤ 512 := by omega
  have k4 : ((f : Int) + z).toNat = f + z := by omega
  have k5 : ¬ 512 - f = 0 := by omega
  clear hp hz hf h1 hs
  generalize get2 X 0 = G at *
  go_enter Try.func71, Try.ntmps71
  go_wp2_with fail
  refine C1.out.mono ?_
  rintro e w1 ⟨rfl, rfl⟩
  go_wp2_with fail
  refine C2.out.mono ?_
  rintro e w2 ⟨rfl, m, rfl⟩
  go_wp2_with fail
  go_ret
  exact ⟨rfl, _, rfl⟩
end Go.Proofs.Ythghnhcopmmmpaa.Mem
/- next, slotsEnd, Used, Room, setBegin, setSlots, New. -/
namespace Go.Proofs.Ythghnhcopmmmpaa.Mem
open Go.RowKit Go.Proofs.Ythghnhcopmmmpaa.Nums
set_option linter.unusedVariables false
set_option linter.unusedSimpArgs false
set_option maxRecDepth 100000
theorem nil_nil (w : World) : (binOp .eql 31 (.slice none 0 0) (.slice none 0 0)).run Try.prog w = .ok (.bool true) w := Lib.run_eql_slice_nil_nil w _ _ Try.underlying31
theorem some_nil (a : Addr) (n c : Nat) (w : World) : (binOp .eql 31 (.slice (some a) n c) (.slice none 0 0)).run Try.prog w = .ok (.bool false) w := Lib.run_eql_slice_some_nil w _ _ _ Try.underlying31
attribute [local go_sem] nil_nil some_nil
/-- how many bytes a slot's version has -/
def szS (X : List UInt8) (s : Nat) : Nat := get2 X (6 + 4 * s)
/-- where they begin -/
def frS (X : List UInt8) (s : Nat) : Nat := get2 X (4 + 4 * s)
/-- how many slots -/
def slN (X : List UInt8) : Nat := get2 X 0
/-- where the data begin -/
def bgN (X : List UInt8) : Nat := get2 X 2
/-- the slots and what they point at lie in the page -/
structure Fine (X : List UInt8) : Prop where
  top : 4 + 4 * slN X ≤ 512
  fit : ∀ s, s < slN X → frS X s + szS X s ≤ 512
def atV (P : Nat) (X : List UInt8) (s : Nat) : Value := if szS X s = 0 then .slice none 0 0 else .slice (some ⟨P, frS X s, none⟩) (szS X s) (512 - frS X s : Nat)
theorem at_pg (P s : Nat) (X : List UInt8) (w : World) (hp : Pg w P X) (hF : Fine X) (h1 : s < slN X) :
    Calls Try.prog 71 #[.pointer (some ⟨P, 0, none⟩), .int .i64 s] w fun e w' => e = .returned (atV P X s) ∧ ∃ m, w' = w.drewN m := by
  have ht := hF.top
  unfold atV
  by_cases hz : szS X s = 0
  · rw [if_pos hz]
    exact at_free P s X w hp h1 (by omega) hz
  · rw [if_neg hz]
    exact at_some P s _ _ X w hp h1 (by omega) rfl rfl hz (hF.fit s h1)
theorem atV_free {P s : Nat} {X : List UInt8} (h : szS X s = 0) : atV P X s = .slice none 0 0 := if_pos h
theorem atV_some {P s : Nat} {X : List UInt8} (h : szS X s ≠ 0) : atV P X s = .slice (some ⟨P, frS X s, none⟩) (szS X s) (512 - frS X s : Nat) := if_neg h
/-- the slot that one more takes -/
structure IsNext (X : List UInt8) (q : Nat) : Prop where
  le : q ≤ slN X
  full : ∀ j, j < q → szS X j ≠ 0
  free : q < slN X → szS X q = 0
theorem next_pg (P : Nat) (X : List UInt8) (w : World) (hp : Pg w P X) (hF : Fine X) :
    Calls Try.prog 70 #[.pointer (some ⟨P, 0, none⟩)] w fun e w' => ∃ q : Nat, e = .returned (.int .i64 q) ∧ IsNext X q ∧ ∃ m, w' = w.drewN m := by
  have HP := Lib.hid hp
  have HF := Lib.hid hF
  have ht := hF.top
  have CS := Lib.hid (slots_pg P X w hp)
  have e : get2 X 0 = slN X := rfl
  rw [e] at CS
  clear hp hF e
  obtain ⟨G, hG⟩ : ∃ G, slN X = G := ⟨_, rfl⟩
  have HG := Lib.hid hG
  rw [hG] at CS ht
  clear hG
  go_enter Try.func70, Try.ntmps70
  go_wp2_with fail
  refine CS.out.mono ?_
  rintro e w1 ⟨rfl, rfl⟩
  go_wp2_with fail
  go_loopw [6] (fun i wr => ∃ k m : Nat, k ≤ G ∧ i = .int .i64 k ∧ (∀ j, j < k → szS X j ≠ 0) ∧ wr = w.drewN m) (fun i _ => G - (intOf i).toNat)
  case atStart => exact ⟨0, 0, by omega, rfl, fun j hj => absurd hj (by omega), rfl⟩
  case round =>
    obtain ⟨k, m, hk, rfl, hall, rfl⟩ := hrel
    have HA := Lib.hid hall
    clear hall
    by_cases hlt : k < G
    · have hlt' : (k : Int) < G := by omega
      have CA := Lib.hid (at_pg P k X (w.drewN m) (HP.out.drewN m) HF.out (by rw [HG.out]; exact hlt))
      by_cases hz : szS X k = 0
      · rw [atV_free hz] at CA
        have HZ := Lib.hid hz
        clear hz
        go_wp2_with fail
        refine CA.out.mono ?_
        rintro e w2 ⟨rfl, m2, rfl⟩
        go_wp2_with fail
        go_ret
        exact ⟨k, rfl, ⟨by rw [HG.out]; exact hk, HA.out, fun _ => HZ.out⟩, _, rfl⟩
      · rw [atV_some hz] at CA
        have HZ := Lib.hid hz
        clear hz
        go_wp2_with fail
        refine CA.out.mono ?_
        rintro e w2 ⟨rfl, m2, rfl⟩
        go_wp2_with fail
        go_roundw
        case rel =>
          refine ⟨k + 1, m + m2, by omega, by go_num, ?_, rfl⟩
          intro j hj
          rcases Nat.lt_or_ge j k with h | h
          · exact HA.out j h
          · obtain rfl : j = k := by omega
            exact HZ.out
        case measure => simp [intOf] <;> omega
    · obtain rfl : k = G := by omega
      have CS := Lib.hid (slots_pg P X (w.drewN m) (HP.out.drewN m))
      have e : get2 X 0 = slN X := rfl
      rw [e, HG.out] at CS
      clear e
      go_wp2_with fail
      refine CS.out.mono ?_
      rintro e w2 ⟨rfl, rfl⟩
      go_wp2_with fail
      go_ret
      exact ⟨k, rfl, ⟨by rw [HG.out]; exact Nat.le_refl _, HA.out, fun h => by rw [HG.out] at h; omega⟩, m, rfl⟩
theorem slotsEnd_pg (P q : Nat) (X : List UInt8) (w : World) (hp : Pg w P X) (hF : Fine X) (hq : q ≤ 127) :
    Calls Try.prog 69 #[.pointer (some ⟨P, 0, none⟩), .int .i64 q] w fun e w' => e = .returned (.int .i64 (4 + 4 * max (slN X) (q + 1) : Nat)) ∧ w = w' := by
  have ht := hF.top
  have CS := Lib.hid (slots_pg P X w hp)
  have e : get2 X 0 = slN X := rfl
  rw [e] at CS
  clear e hp hF
  generalize slN X = G at *
  rcases Nat.lt_or_ge q G with h | h
  · have hm : max G (q + 1) = G := by omega
    have h1 : (q : Int) + 1 ≤ G := by omega
    rw [hm]
    clear hm h
    go_enter Try.func69, Try.ntmps69
    go_wp2_with fail
    refine CS.out.mono ?_
    rintro e w1 ⟨rfl, rfl⟩
    go_wp2_with fail
    all_goals first
      | (go_ret; exact ⟨by simp only []; go_num, rfl⟩)
      | (exfalso; omega)
  · have hm : max G (q + 1) = q + 1 := by omega
    have h1 : (G : Int) < (q : Int) + 1 := by omega
    rw [hm]
    clear hm h
    go_enter Try.func69, Try.ntmps69
    go_wp2_with fail
    refine CS.out.mono ?_
    rintro e w1 ⟨rfl, rfl⟩
    go_wp2_with fail
    all_goals first
      | (go_ret; exact ⟨by simp only []; go_num, rfl⟩)
      | (exfalso; omega)
theorem neq_nil_nil (w : World) : (binOp .neq 31 (.slice none 0 0) (.slice none 0 0)).run Try.prog w = .ok (.bool false) w := run_neq_slice_nil_any w _ _ _ _ _ _ _ Try.underlying31
theorem neq_some_nil (a : Addr) (n c : Nat) (w : World) : (binOp .neq 31 (.slice (some a) n c) (.slice none 0 0)).run Try.prog w = .ok (.bool true) w := run_neq_slice_nil_any w _ _ _ _ _ _ _ Try.underlying31
attribute [local go_sem] neq_nil_nil neq_some_nil
/-- how many of the first slots are not free -/
def usN (X : List UInt8) : Nat → Nat
  | 0 => 0
  | k + 1 => usN X k + if szS X k = 0 then 0 else 1
theorem usN_le (X : List UInt8) : ∀ k, usN X k ≤ k
  | 0 => Nat.le_refl _
  | k + 1 => by have := usN_le X k; unfold usN; split <;> omega
/-- how many bytes the first slots' versions have -/
def suN (X : List UInt8) : Nat → Nat
  | 0 => 0
  | k + 1 => suN X k + szS X k
theorem suN_le {X : List UInt8} (hF : Fine X) : ∀ k, k ≤ slN X → suN X k ≤ 512 * k
  | 0, _ => Nat.zero_le _
  | k + 1, h => by
    have h1 := suN_le hF k (by omega)
    have h2 := hF.fit k (by omega)
    unfold suN
    omega
theorem used_pg (P : Nat) (X : List UInt8) (w : World) (hp : Pg w P X) (hF : Fine X) :
    Calls Try.prog 23 #[.pointer (some ⟨P, 0, none⟩)] w fun e w' => e = .returned (.int .i64 (usN X (slN X) : Nat)) ∧ ∃ m, w' = w.drewN m := by
  have HP := Lib.hid hp
  have HF := Lib.hid hF
  have ht := hF.top
  have CS := Lib.hid (slots_pg P X w hp)
  have e : get2 X 0 = slN X := rfl
  rw [e] at CS
  clear hp hF e
  obtain ⟨G, hG⟩ : ∃ G, slN X = G := ⟨_, rfl⟩
  have HG := Lib.hid hG
  rw [hG] at CS ht ⊢
  clear hG
  go_enter Try.func23, Try.ntmps23
  go_wp2_with fail
  refine CS.out.mono ?_
  rintro e w1 ⟨rfl, rfl⟩
  go_wp2_with fail
  go_loopw [3, 7] (fun u i wr => ∃ k m : Nat, k ≤ G ∧ i = .int .i64 k ∧ u = .int .i64 (usN X k : Nat) ∧ wr = w.drewN m) (fun _ i _ => G - (intOf i).toNat)
  case atStart => exact ⟨0, 0, by omega, rfl, rfl, rfl⟩
  case round =>
    obtain ⟨k, m, hk, rfl, rfl, rfl⟩ := hrel
    by_cases hlt : k < G
    · have hlt' : (k : Int) < G := by omega
      have hle := usN_le X k
      have CA := Lib.hid (at_pg P k X (w.drewN m) (HP.out.drewN m) HF.out (by rw [HG.out]; exact hlt))
      have HU : Hid (usN X (k + 1) = usN X k + if szS X k = 0 then 0 else 1) := Lib.hid rfl
      generalize usN X k = U at *
      by_cases hz : szS X k = 0
      · rw [atV_free hz] at CA
        rw [if_pos hz] at HU
        clear hz
        go_wp2_with fail
        refine CA.out.mono ?_
        rintro e w2 ⟨rfl, m2, rfl⟩
        go_wp2_with fail
        go_roundw
        case rel => exact ⟨k + 1, m + m2, by omega, by go_num, by rw [HU.out]; rfl, rfl⟩
        case measure => simp [intOf] <;> omega
      · rw [atV_some hz] at CA
        rw [if_neg hz] at HU
        clear hz
        go_wp2_with fail
        refine CA.out.mono ?_
        rintro e w2 ⟨rfl, m2, rfl⟩
        go_wp2_with fail
        go_roundw
        case rel => exact ⟨k + 1, m + m2, by omega, by go_num, by rw [HU.out]; go_num, rfl⟩
        case measure => simp [intOf] <;> omega
    · obtain rfl : k = G := by omega
      go_wp2_with fail
      go_ret
      exact ⟨rfl, m, rfl⟩
theorem used_nil (w : World) : Calls Try.prog 23 #[.pointer none] w fun e w' => e = .returned (.int .i64 0) ∧ w = w' := by
  have CS := Lib.hid (slots_nil w)
  go_enter Try.func23, Try.ntmps23
  go_wp2_with fail
  refine CS.out.mono ?_
  rintro e w1 ⟨rfl, rfl⟩
  go_wp2_with fail
  go_loopw [3, 7] (fun u i wr => u = .int .i64 0 ∧ i = .int .i64 0 ∧ wr = w) (fun _ i _ => 0)
  case atStart => exact ⟨rfl, rfl, rfl⟩
  case round =>
    obtain ⟨rfl, rfl, rfl⟩ := hrel
    go_wp2_with fail
    go_ret
    exact ⟨rfl, rfl⟩
theorem room_nil (w : World) : Calls Try.prog 21 #[.pointer none] w fun e w' => e = .returned (.int .i64 (-1)) ∧ w = w' := by
  go_enter Try.func21, Try.ntmps21
  go_wp2_with fail
  go_ret
  exact ⟨rfl, rfl⟩
theorem room_pg (P : Nat) (X : List UInt8) (w : World) (hp : Pg w P X) (hF : Fine X) :
    Calls Try.prog 21 #[.pointer (some ⟨P, 0, none⟩)] w fun e w' => ∃ q : Nat, IsNext X q ∧ e = .returned (.int .i64 (max (478 - 4 * (max (slN X) (q + 1) : Nat) - (suN X (slN X) : Nat)) (-1))) ∧ ∃ m, w' = w.drewN m := by
  have HP := Lib.hid hp
  have HF := Lib.hid hF
  have ht := hF.top
  have CN := Lib.hid (next_pg P X w hp hF)
  clear hp hF
  obtain ⟨G, hG⟩ : ∃ G, slN X = G := ⟨_, rfl⟩
  have HG := Lib.hid hG
  rw [hG] at ht ⊢
  clear hG
  go_enter Try.func21, Try.ntmps21
  go_wp2_with fail
  refine CN.out.mono ?_
  rintro e w1 ⟨q, rfl, hq, m0, rfl⟩
  have HQ := Lib.hid hq
  have hqle := hq.le
  rw [HG.out] at hqle
  clear hq
  have CE := Lib.hid (slotsEnd_pg P q X (w.drewN m0) (HP.out.drewN m0) HF.out (by omega))
  rw [HG.out] at CE
  obtain ⟨M, hM⟩ : ∃ M, max G (q + 1) = M := ⟨_, rfl⟩
  have HM := Lib.hid hM
  have hMb : M ≤ 128 := by omega
  rw [hM] at CE
  clear hM
  go_wp2_with fail
  refine CE.out.mono ?_
  rintro e w2 ⟨rfl, rfl⟩
  have CS := Lib.hid (slots_pg P X (w.drewN m0) (HP.out.drewN m0))
  have e : get2 X 0 = slN X := rfl
  rw [e, HG.out] at CS
  clear e
  go_wp2_with fail
  refine CS.out.mono ?_
  rintro e w2 ⟨rfl, rfl⟩
  go_wp2_with fail
  go_loopw [3, 15] (fun u i wr => ∃ k m : Nat, k ≤ G ∧ i = .int .i64 k ∧ u = .int .i64 (478 - 4 * (M : Int) - (suN X k : Nat)) ∧ wr = w.drewN m) (fun _ i _ => G - (intOf i).toNat)
  case atStart => exact ⟨0, m0, by omega, rfl, by simp only [suN]; go_num, rfl⟩
  case round =>
    obtain ⟨k, m, hk, rfl, rfl, rfl⟩ := hrel
    have hsu := suN_le HF.out k (by rw [HG.out]; exact hk)
    by_cases hlt : k < G
    · have hlt' : (k : Int) < G := by omega
      have CA := Lib.hid (at_pg P k X (w.drewN m) (HP.out.drewN m) HF.out (by rw [HG.out]; exact hlt))
      have HU : Hid (suN X (k + 1) = suN X k + szS X k) := Lib.hid rfl
      have hfit := HF.out.fit k (by rw [HG.out]; exact hlt)
      generalize suN X k = U at *
      by_cases hz : szS X k = 0
      · rw [atV_free hz] at CA
        rw [hz] at HU
        clear hz hfit
        go_wp2_with fail
        refine CA.out.mono ?_
        rintro e w2 ⟨rfl, m2, rfl⟩
        go_wp2_with fail
        go_roundw
        case rel => exact ⟨k + 1, m + m2, by omega, by go_num, by rw [HU.out]; go_num, rfl⟩
        case measure => simp [intOf] <;> omega
      · rw [atV_some hz] at CA
        generalize szS X k = Z at *
        generalize frS X k = F at *
        clear hz
        go_wp2_with fail
        refine CA.out.mono ?_
        rintro e w2 ⟨rfl, m2, rfl⟩
        go_wp2_with fail
        go_roundw
        case rel => exact ⟨k + 1, m + m2, by omega, by go_num, by rw [HU.out]; go_num, rfl⟩
        case measure => simp [intOf] <;> omega
    · obtain rfl : k = G := by omega
      have HR : Hid (((478 : Int) - 4 * (max k (q + 1) : Nat) - (suN X k : Nat)) = 478 - 4 * (M : Int) - (suN X k : Nat)) := Lib.hid (by rw [HM.out])
      by_cases h : 478 - 4 * (M : Int) - (suN X k : Nat) < -1
      · have HX : Hid (max (478 - 4 * (M : Int) - (suN X k : Nat)) (-1) = -1) := Lib.hid (by omega)
        go_wp2_with fail
        all_goals first
          | (go_ret; exact ⟨q, HQ.out, by rw [HR.out, HX.out]; rfl, m, rfl⟩)
          | (exfalso; omega)
      · have HX : Hid (max (478 - 4 * (M : Int) - (suN X k : Nat)) (-1) = 478 - 4 * (M : Int) - (suN X k : Nat)) := Lib.hid (by omega)
        go_wp2_with fail
        all_goals first
          | (go_ret; exact ⟨q, HQ.out, by rw [HR.out, HX.out]; rfl, m, rfl⟩)
          | (exfalso; omega)
end Go.Proofs.Ythghnhcopmmmpaa.Mem
/- setBegin, setSlots, New, right. -/
namespace Go.Proofs.Ythghnhcopmmmpaa.Mem
open Go.RowKit Go.Proofs.Ythghnhcopmmmpaa.Nums
set_option linter.unusedVariables false
set_option linter.unusedSimpArgs false
set_option maxRecDepth 100000
theorem get2_same {X b : List UInt8} {a : Nat} (h : a + b.length ≤ X.length) (h2 : b.length = 2) : get2 (lay X a b) a = leN b := by
  unfold get2 lay
  have h1 : (X.take a).length = a := by rw [List.length_take]; omega
  rw [List.append_assoc, List.drop_append_of_le_length (by omega), List.drop_of_length_le (by omega), List.nil_append, List.take_append_of_le_length (by omega), List.take_of_length_le (by omega)]
theorem get2_other {X b : List UInt8} {a c : Nat} (h : a + b.length ≤ X.length) (h2 : c + 2 ≤ a ∨ a + b.length ≤ c) : get2 (lay X a b) c = get2 X c := by
  unfold get2
  congr 1
  apply List.ext_getElem?
  intro j
  rw [List.getElem?_take, List.getElem?_take]
  split
  · rw [List.getElem?_drop, List.getElem?_drop, lay_other h (by omega)]
  · rfl
theorem Pg.lay {w w' : World} {P : Nat} {X b : List UInt8} {a : Nat} (h : Pg w P X) (hb : BB w' P 113 (lay X a b)) (hl : a + b.length ≤ 512) : Pg w' P (Mem.lay X a b) :=
  ⟨hb, by rw [lay_len (by rw [h.2]; exact hl), h.2]⟩
theorem setBegin_pg (P at_ : Nat) (X : List UInt8) (w : World) (hp : Pg w P X) (ha : at_ ≤ 512) :
    Calls Try.prog 61 #[.pointer (some ⟨P, 0, none⟩), .int .i64 at_] w fun e w' => e = .returned (.tuple #[]) ∧ Pg w' P (lay X 2 (nb at_ 2)) ∧ Only P w w' := by
  have HP := Lib.hid hp
  have C1 := Lib.hid (write_any P 113 X 2 2 510 at_ w hp.1 (by rw [hp.2]; omega) (by omega) (by omega) (by unfold maxLen; omega) (by omega))
  have h1 : IntKind.u64.wrap (at_ : Int) = at_ := by rw [IntKind.wrap_u64]; omega
  clear hp
  go_enter Try.func61, Try.ntmps61
  go_wp2_with fail
  refine C1.out.mono ?_
  rintro e w1 ⟨rfl, hb, ho⟩
  have HB := Lib.hid (Pg.lay HP.out hb (by rw [nb_len]; omega))
  have HO := Lib.hid ho
  clear hb ho
  go_wp2_with fail
  exact bodyPost_end (v := .tuple #[]) (by simp [results, Try.results61, go_sem]) rfl ⟨rfl, HB.out, HO.out⟩
theorem setSlots_pg (P n : Nat) (X : List UInt8) (w : World) (hp : Pg w P X) (ha : n ≤ 512) :
    Calls Try.prog 81 #[.pointer (some ⟨P, 0, none⟩), .int .i64 n] w fun e w' => e = .returned (.tuple #[]) ∧ Pg w' P (lay X 0 (nb n 2)) ∧ Only P w w' := by
  have HP := Lib.hid hp
  have C1 := Lib.hid (write_any P 113 X 0 2 512 n w hp.1 (by rw [hp.2]; omega) (by omega) (by omega) (by unfold maxLen; omega) (by omega))
  have h1 : IntKind.u64.wrap (n : Int) = n := by rw [IntKind.wrap_u64]; omega
  clear hp
  go_enter Try.func81, Try.ntmps81
  go_wp2_with fail
  refine C1.out.mono ?_
  rintro e w1 ⟨rfl, hb, ho⟩
  have HB := Lib.hid (Pg.lay HP.out hb (by rw [nb_len]; omega))
  have HO := Lib.hid ho
  clear hb ho
  go_wp2_with fail
  exact bodyPost_end (v := .tuple #[]) (by simp [results, Try.results81, go_sem]) rfl ⟨rfl, HB.out, HO.out⟩
end Go.Proofs.Ythghnhcopmmmpaa.Mem
/- page.New. -/
namespace Go.Proofs.Ythghnhcopmmmpaa.Mem
open Go.RowKit Go.Proofs.Ythghnhcopmmmpaa.Nums
set_option linter.unusedVariables false
set_option linter.unusedSimpArgs false
set_option maxRecDepth 100000
theorem zero_pg : Try.zeroCells113 = (u8s (List.replicate 512 0)).toArray := by kernel_rfl
/-- a new page's bytes -/
def X0 : List UInt8 := lay (List.replicate 512 0) 2 (nb 512 2)
theorem new_pg (w : World) :
    Calls Try.prog 15 #[] w fun e w' => e = .returned (.pointer (some ⟨w.heap.size, 0, none⟩)) ∧ Pg w' w.heap.size X0 ∧ Below w.heap.size w w' := by
  have HZ : Hid (Pg (w.alloc (.cells Try.zeroCells113 113)) w.heap.size (List.replicate 512 0)) := Lib.hid ⟨by rw [zero_pg]; exact Blk.new w _ _, List.length_replicate⟩
  go_enter Try.func15, Try.ntmps15
  go_wp2_with fail
  refine (setBegin_pg w.heap.size 512 _ _ HZ.out (by omega)).mono ?_
  rintro e w1 ⟨rfl, hp, ho⟩
  have HB := Lib.hid ((bel_alloc w (.cells Try.zeroCells113 113)).trans (ho.below (by rw [size_alloc]; omega) (Nat.le_refl _)))
  have HP := Lib.hid hp
  clear hp ho
  go_wp2_with fail
  go_ret
  exact ⟨rfl, HP.out, HB.out⟩
end Go.Proofs.Ythghnhcopmmmpaa.Mem
/- page.right. -/
namespace Go.Proofs.Ythghnhcopmmmpaa.Mem
open Go.RowKit Go.Proofs.Ythghnhcopmmmpaa.Nums
set_option linter.unusedVariables false
set_option linter.unusedSimpArgs false
set_option maxRecDepth 100000
theorem rightNumber_yes (n : Nat) (w : World) (h : n ≤ 1099511627776) : Calls Try.prog 84 #[.int .u64 n] w fun e w' => e = .returned (.bool true) ∧ w = w' := by
  have hi : (n : Int) ≤ 1099511627776 := by omega
  go_enter Try.func84, Try.ntmps84
  go_wp2_with fail
  go_ret
  exact ⟨rfl, rfl⟩
theorem rightNumber_no (n : Nat) (w : World) (h : ¬ n ≤ 1099511627776) : Calls Try.prog 84 #[.int .u64 n] w fun e w' => e = .returned (.bool false) ∧ w = w' := by
  have hi : ¬ (n : Int) ≤ 1099511627776 := by omega
  go_enter Try.func84, Try.ntmps84
  go_wp2_with fail
  go_ret
  exact ⟨rfl, rfl⟩
theorem rightNumber_any (n : Nat) (w : World) : Calls Try.prog 84 #[.int .u64 n] w fun e w' => e = .returned (.bool (decide (n ≤ 1099511627776))) ∧ w = w' := by
  by_cases h : n ≤ 1099511627776
  · rw [decide_eq_true h]; exact rightNumber_yes n w h
  · rw [decide_eq_false h]; exact rightNumber_no n w h
/-- may a Next be so? -/
def nxOk (p s : Int) : Bool := (p == -1 && s == -1) || (decide (0 ≤ p) && decide (p ≤ 65535) && decide (0 ≤ s) && decide (s ≤ 65534))
theorem tid_eql (p s : Int) (w : World) : (binOp .eql 30 (.agg #[.int .i64 p, .int .i64 s]) (.agg #[.int .i64 (-1), .int .i64 (-1)])).run Try.prog w = .ok (.bool (p == -1 && s == -1)) w := by
  simp [go_sem]
  by_cases hp : p = -1 <;> by_cases hs : s = -1 <;> simp [hp, hs]
theorem rightNext_any (p s : Int) (w : World) : Calls Try.prog 85 #[.agg #[.int .i64 p, .int .i64 s]] w fun e w' => e = .returned (.bool (nxOk p s)) ∧ Below w.heap.size w w' := by
  have hE := fun w => tid_eql p s w
  have H0 : Hid (nxOk p s = ((p == -1 && s == -1) || (decide (0 ≤ p) && decide (p ≤ 65535) && decide (0 ≤ s) && decide (s ≤ 65534)))) := Lib.hid rfl
  obtain ⟨q, hq⟩ : ∃ q, (p == -1 && s == -1) = q := ⟨_, rfl⟩
  simp only [hq] at hE
  rw [hq] at H0
  cases q
  rotate_left
  · go_enter Try.func85, Try.ntmps85
    go_wp2_with fail
    go_ret
    exact ⟨by rw [H0.out]; rfl, bel_alloc _ _⟩
  by_cases h1 : 0 ≤ p
  rotate_left
  · rw [decide_eq_false h1] at H0
    go_enter Try.func85, Try.ntmps85
    go_wp2_with fail
    go_ret
    exact ⟨by rw [H0.out]; rfl, bel_alloc _ _⟩
  by_cases h2 : p ≤ 65535
  rotate_left
  · rw [decide_eq_false h2, decide_eq_true h1] at H0
    go_enter Try.func85, Try.ntmps85
    go_wp2_with fail
    go_ret
    exact ⟨by rw [H0.out]; rfl, bel_alloc _ _⟩
  by_cases h3 : 0 ≤ s
  rotate_left
  · rw [decide_eq_false h3, decide_eq_true h1, decide_eq_true h2] at H0
    go_enter Try.func85, Try.ntmps85
    go_wp2_with fail
    go_ret
    exact ⟨by rw [H0.out]; rfl, bel_alloc _ _⟩
  by_cases h4 : s ≤ 65534
  · rw [decide_eq_true h4, decide_eq_true h1, decide_eq_true h2, decide_eq_true h3] at H0
    go_enter Try.func85, Try.ntmps85
    go_wp2_with fail
    go_ret
    exact ⟨by rw [H0.out]; rfl, bel_alloc _ _⟩
  · rw [decide_eq_false h4, decide_eq_true h1, decide_eq_true h2, decide_eq_true h3] at H0
    go_enter Try.func85, Try.ntmps85
    go_wp2_with fail
    go_ret
    exact ⟨by rw [H0.out]; rfl, bel_alloc _ _⟩
/-- may a version be so? -/
def tuOk (r a b : Nat) (p s : Int) (n : Nat) : Bool := decide (r ≤ 1099511627776) && decide (a ≤ 1099511627776) && decide (b ≤ 1099511627776) && nxOk p s && decide (n ≤ 200)
theorem right_any (r a b : Nat) (p s : Int) (A : Option Addr) (n c : Nat) (w : World) :
    Calls Try.prog 77 #[.agg #[.int .u64 r, .int .u64 a, .int .u64 b, .int .i64 p, .int .i64 s, .slice A n c]] w fun e w' => e = .returned (.bool (tuOk r a b p s n)) ∧ Below w.heap.size w w' := by
  have H0 : Hid (tuOk r a b p s n = (decide (r ≤ 1099511627776) && decide (a ≤ 1099511627776) && decide (b ≤ 1099511627776) && nxOk p s && decide (n ≤ 200))) := Lib.hid rfl
  by_cases h1 : r ≤ 1099511627776
  rotate_left
  · rw [decide_eq_false h1] at H0
    go_enter Try.func77, Try.ntmps77
    go_wp2_with fail
    refine (rightNumber_no r _ h1).mono ?_
    rintro e w1 ⟨rfl, rfl⟩
    go_wp2_with fail
    go_ret
    exact ⟨by rw [H0.out]; rfl, bel_alloc _ _⟩
  rw [decide_eq_true h1] at H0
  by_cases h2 : a ≤ 1099511627776
  rotate_left
  · rw [decide_eq_false h2] at H0
    go_enter Try.func77, Try.ntmps77
    go_wp2_with fail
    refine (rightNumber_yes r _ h1).mono ?_
    rintro e w1 ⟨rfl, rfl⟩
    go_wp2_with fail
    refine (rightNumber_no a _ h2).mono ?_
    rintro e w1 ⟨rfl, rfl⟩
    go_wp2_with fail
    go_ret
    exact ⟨by rw [H0.out]; rfl, bel_alloc _ _⟩
  rw [decide_eq_true h2] at H0
  by_cases h3 : b ≤ 1099511627776
  rotate_left
  · rw [decide_eq_false h3] at H0
    go_enter Try.func77, Try.ntmps77
    go_wp2_with fail
    refine (rightNumber_yes r _ h1).mono ?_
    rintro e w1 ⟨rfl, rfl⟩
    go_wp2_with fail
    refine (rightNumber_yes a _ h2).mono ?_
    rintro e w1 ⟨rfl, rfl⟩
    go_wp2_with fail
    refine (rightNumber_no b _ h3).mono ?_
    rintro e w1 ⟨rfl, rfl⟩
    go_wp2_with fail
    go_ret
    exact ⟨by rw [H0.out]; rfl, bel_alloc _ _⟩
  rw [decide_eq_true h3] at H0
  have HB1 : Hid (Below w.heap.size w (w.alloc (.cells #[.int .u64 r, .int .u64 a, .int .u64 b, .int .i64 p, .int .i64 s, .slice A n c] 33))) := Lib.hid (bel_alloc _ _)
  have hb4 := at_new w #[.int .u64 r, .int .u64 a, .int .u64 b, .int .i64 p, .int .i64 s, .slice A n c] 33
  have HD : Hid ((w.alloc (.cells #[.int .u64 r, .int .u64 a, .int .u64 b, .int .i64 p, .int .i64 s, .slice A n c] 33)).cell? ⟨w.heap.size, 5, none⟩ = some (.slice A n c)) := Lib.hid (by have h := hb4.2 5 (.slice A n c) rfl; rwa [add_flat] at h)
  clear hb4
  obtain ⟨q, hq⟩ : ∃ q, nxOk p s = q := ⟨_, rfl⟩
  have CX := Lib.hid (rightNext_any p s (w.alloc (.cells #[.int .u64 r, .int .u64 a, .int .u64 b, .int .i64 p, .int .i64 s, .slice A n c] 33)))
  rw [hq] at H0 CX
  clear hq
  cases q
  · go_enter Try.func77, Try.ntmps77
    go_wp2_with fail
    refine (rightNumber_yes r _ h1).mono ?_
    rintro e w1 ⟨rfl, rfl⟩
    go_wp2_with fail
    refine (rightNumber_yes a _ h2).mono ?_
    rintro e w1 ⟨rfl, rfl⟩
    go_wp2_with fail
    refine (rightNumber_yes b _ h3).mono ?_
    rintro e w1 ⟨rfl, rfl⟩
    go_wp2_with fail
    refine CX.out.mono ?_
    rintro e w2 ⟨rfl, hb2⟩
    have HB2 := Lib.hid (bel_trans HB1.out hb2)
    clear hb2
    go_wp2_with fail
    go_ret
    exact ⟨by rw [H0.out]; rfl, HB2.out⟩
  · by_cases h5 : n ≤ 200
    · rw [decide_eq_true h5] at H0
      have h5' : (n : Int) ≤ 200 := by omega
      go_enter Try.func77, Try.ntmps77
      go_wp2_with fail
      refine (rightNumber_yes r _ h1).mono ?_
      rintro e w1 ⟨rfl, rfl⟩
      go_wp2_with fail
      refine (rightNumber_yes a _ h2).mono ?_
      rintro e w1 ⟨rfl, rfl⟩
      go_wp2_with fail
      refine (rightNumber_yes b _ h3).mono ?_
      rintro e w1 ⟨rfl, rfl⟩
      go_wp2_with fail
      refine CX.out.mono ?_
      rintro e w2 ⟨rfl, hb2⟩
      have HB2 := Lib.hid (bel_trans HB1.out hb2)
      have hd := (hb2.cell (p := ⟨w.heap.size, 5, none⟩) (by rw [size_alloc]; show w.heap.size < _; omega)).trans HD.out
      clear hb2
      go_wp2_with fail
      go_ret
      exact ⟨by rw [H0.out]; rfl, HB2.out⟩
    · rw [decide_eq_false h5] at H0
      have h5' : ¬ (n : Int) ≤ 200 := by omega
      have h5d : decide ((n : Int) ≤ 200) = false := decide_eq_false h5'
      go_enter Try.func77, Try.ntmps77
      go_wp2_with fail
      refine (rightNumber_yes r _ h1).mono ?_
      rintro e w1 ⟨rfl, rfl⟩
      go_wp2_with fail
      refine (rightNumber_yes a _ h2).mono ?_
      rintro e w1 ⟨rfl, rfl⟩
      go_wp2_with fail
      refine (rightNumber_yes b _ h3).mono ?_
      rintro e w1 ⟨rfl, rfl⟩
      go_wp2_with fail
      refine CX.out.mono ?_
      rintro e w2 ⟨rfl, hb2⟩
      have HB2 := Lib.hid (bel_trans HB1.out hb2)
      have hd := (hb2.cell (p := ⟨w.heap.size, 5, none⟩) (by rw [size_alloc]; show w.heap.size < _; omega)).trans HD.out
      clear hb2
      go_wp2_with fail
      go_ret
      exact ⟨by rw [H0.out]; first | rfl | (simp only [h5d]; rfl) | (simp [h5d]), HB2.out⟩
end Go.Proofs.Ythghnhcopmmmpaa.Mem
/- page.stamp. -/
namespace Go.Proofs.Ythghnhcopmmmpaa.Mem
open Go.RowKit Go.Proofs.Ythghnhcopmmmpaa.Nums
set_option linter.unusedVariables false
set_option linter.unusedSimpArgs false
set_option maxRecDepth 100000
set_option maxHeartbeats 4000000
theorem BB.drew {w : World} {g : Nat} {t : TypeId} {X : List UInt8} (h : BB w g t X) : BB w.drew g t X := h
theorem Only.drew {w w' : World} {g : Nat} (h : Only g w w') : Only g w w'.drew := ⟨h.os, h.tape, h.output, h.size, h.block⟩
theorem Only.cell {w w' : World} {g : Nat} (h : Only g w w') {p : Addr} {v : Value} (hp : p.block < w.heap.size) (hg : p.block ≠ g) (hc : w.cell? p = some v) : w'.cell? p = some v := by
  have hb := h.block p.block hp hg
  rw [← hc]
  unfold World.cell?
  rw [hb]
/-- a version's bytes with the end and the next written over -/
def stampL (X : List UInt8) (a U P1 S1 : Nat) : List UInt8 := lay (lay (lay X (a + 16) (nb U 8)) (a + 24) (nb P1 4)) (a + 28) (nb S1 2)
theorem stampL_len {X : List UInt8} {a U P1 S1 : Nat} (h : a + 30 ≤ X.length) : (stampL X a U P1 S1).length = X.length := by
  unfold stampL
  have e1 := lay_len (X := X) (b := nb U 8) (a := a + 16) (by rw [nb_len]; omega)
  have e2 := lay_len (X := lay X (a + 16) (nb U 8)) (b := nb P1 4) (a := a + 24) (by rw [nb_len, e1]; omega)
  rw [lay_len (by rw [nb_len, e2, e1]; omega), e2, e1]
theorem stamp_any (g : Nat) (t : TypeId) (X : List UInt8) (a m c U P1 S1 : Nat) (p s : Int) (w : World) (hb : BB w g t X) (hX : a + m ≤ X.length) (h30 : 30 ≤ m) (hc : m ≤ c) (hcm : c ≤ maxLen) (hU : U < 18446744073709551616) (hp : p + 1 = P1) (hs : s + 1 = S1) (hP : P1 ≤ 65536) (hS : S1 ≤ 65535) :
    Calls Try.prog 86 #[.slice (some ⟨g, a, none⟩) m c, .int .u64 U, .agg #[.int .i64 p, .int .i64 s]] w fun e w' => e = .returned (.tuple #[]) ∧ BB w' g t (stampL X a U P1 S1) ∧ Only g w w' := by
  have hgl : g < w.heap.size := Blk.lt hb
  have HB0 : Hid (BB (w.alloc (.cells #[.int .i64 p, .int .i64 s] 30)) g t X) := Lib.hid (Blk.alloc hb _)
  have HO0 : Hid (Only g w (w.alloc (.cells #[.int .i64 p, .int .i64 s] 30))) := Lib.hid (Only.of_below (bel_alloc _ _))
  have hb4 := at_new w #[.int .i64 p, .int .i64 s] 30
  have HC0 : Hid ((w.alloc (.cells #[.int .i64 p, .int .i64 s] 30)).cell? ⟨w.heap.size, 0, none⟩ = some (.int .i64 p)) := Lib.hid (by have h := hb4.2 0 (.int .i64 p) rfl; rwa [add_flat] at h)
  have HC1 : Hid ((w.alloc (.cells #[.int .i64 p, .int .i64 s] 30)).cell? ⟨w.heap.size, 1, none⟩ = some (.int .i64 s)) := Lib.hid (by have h := hb4.2 1 (.int .i64 s) rfl; rwa [add_flat] at h)
  clear hb4 hb
  have e1 := lay_len (X := X) (b := nb U 8) (a := a + 16) (by rw [nb_len]; omega)
  have e2 := lay_len (X := lay X (a + 16) (nb U 8)) (b := nb P1 4) (a := a + 24) (by rw [nb_len, e1]; omega)
  have HL1 := Lib.hid e1
  have HL2 : Hid ((lay (lay X (a + 16) (nb U 8)) (a + 24) (nb P1 4)).length = X.length) := Lib.hid (e2.trans e1)
  clear e1 e2
  have C1 := Lib.hid (write_any g t X (a + 16) 8 (c - 16) U _ HB0.out (by omega) (by omega) (by omega) (by omega) hU)
  unfold maxLen at hcm
  have k1 : (24 : Int) ≤ c := by omega
  have k2 : (28 : Int) ≤ c := by omega
  have k3 : (30 : Int) ≤ c := by omega
  have k4 : ¬ c = 16 := by omega
  have k5 : ¬ c = 24 := by omega
  have k6 : ¬ c = 28 := by omega
  have HX := Lib.hid hX
  have HM := Lib.hid (And.intro h30 hc)
  have w1 : IntKind.i64.wrap (p + 1) = P1 := by rw [IntKind.wrap_i64]; omega
  have w2 : IntKind.u64.wrap (P1 : Int) = P1 := by rw [IntKind.wrap_u64]; omega
  have w3 : IntKind.i64.wrap (s + 1) = S1 := by rw [IntKind.wrap_i64]; omega
  have w4 : IntKind.u64.wrap (S1 : Int) = S1 := by rw [IntKind.wrap_u64]; omega
  clear hX hp hs h30 hc
  go_enter Try.func86, Try.ntmps86
  go_wp2_with fail
  refine C1.out.mono ?_
  rintro e wa ⟨rfl, hba, hoa⟩
  have HBA := Lib.hid hba
  have HOA := Lib.hid (HO0.out.trans hoa)
  have c0 := hoa.cell (p := ⟨w.heap.size, 0, none⟩) (by rw [size_alloc]; show w.heap.size < _; omega) (by show w.heap.size ≠ g; omega) HC0.out
  have HC1a := Lib.hid (hoa.cell (p := ⟨w.heap.size, 1, none⟩) (by rw [size_alloc]; show w.heap.size < _; omega) (by show w.heap.size ≠ g; omega) HC1.out)
  have hsa : w.heap.size < wa.heap.size := Nat.lt_of_lt_of_le (by rw [size_alloc]; omega) hoa.size
  clear hba hoa
  go_wp2_with fail
  go_region_held3 (fun w' => w'.cell? ⟨w.heap.size, 0, none⟩ = some (.int .i64 p)) (first | go_keep | exact hob.cell (p := ⟨w.heap.size, 0, none⟩) hsa (by show w.heap.size ≠ g; omega) (by assumption))
    (first
      | (go_at_call 97; refine (write_any g t _ (a + 24) 4 (c - 24) P1 _ (BB.drew HBA.out) (by rw [HL1.out]; have := HX.out; have := HM.out; omega) (by omega) (by have := HM.out; omega) (by unfold maxLen; omega) (by omega)).mono ?_; rintro e wb ⟨rfl, hbb, hob⟩))
  have HBB := Lib.hid hbb
  have HOB := Lib.hid (HOA.out.drew.trans hob)
  have c1 := hob.cell (p := ⟨w.heap.size, 1, none⟩) hsa (by show w.heap.size ≠ g; omega) HC1a.out
  have hsb : w.heap.size < wb.heap.size := Nat.lt_of_lt_of_le hsa hob.size
  clear hbb hob c0
  go_wp2_with fail
  go_region_held3 (fun w' => w'.cell? ⟨w.heap.size, 1, none⟩ = some (.int .i64 s)) (first | go_keep | exact hoc.cell (p := ⟨w.heap.size, 1, none⟩) hsb (by show w.heap.size ≠ g; omega) (by assumption))
    (first
      | (go_at_call 97; refine (write_any g t _ (a + 28) 2 (c - 28) S1 _ (BB.drew HBB.out) (by rw [HL2.out]; have := HX.out; have := HM.out; omega) (by omega) (by have := HM.out; omega) (by unfold maxLen; omega) (by omega)).mono ?_; rintro e wc ⟨rfl, hbc, hoc⟩))
  have HBC := Lib.hid hbc
  have HOC := Lib.hid (HOB.out.drew.trans hoc)
  clear hbc hoc
  go_wp2_with fail
  exact bodyPost_end (v := .tuple #[]) (by simp [results, Try.results86, go_sem]) rfl ⟨rfl, HBC.out, HOC.out⟩
end Go.Proofs.Ythghnhcopmmmpaa.Mem
/- page.version. -/
namespace Go.Proofs.Ythghnhcopmmmpaa.Mem
open Go.RowKit Go.Proofs.Ythghnhcopmmmpaa.Nums
set_option linter.unusedVariables false
set_option linter.unusedSimpArgs false
set_option maxRecDepth 100000
set_option maxHeartbeats 4000000
theorem info5 : (Try.prog.info? 5).map (fun i => (i.zero, i.size, i.bytes)) = some (some (.int .u8 0), 1, 1) := by kernel_rfl
theorem size5 : (Try.prog.info? 5).map (·.size) = some 1 := by kernel_rfl
theorem info_part {e : TypeId} {z : Value} {n b : Nat} (h : (Try.prog.info? e).map (fun i => (i.zero, i.size, i.bytes)) = some (some z, n, b)) : ∃ i, Try.prog.info? e = some i ∧ i.zero = some z ∧ i.size = n ∧ i.bytes = b := by
  cases hi : Try.prog.info? e with
  | none => rw [hi] at h; cases h
  | some i =>
    rw [hi] at h
    injection h with h
    injection h with h1 h
    injection h with h2 h3
    exact ⟨i, rfl, h1, h2, h3⟩
theorem make_u8 (m : Nat) (hm : m ≤ 1000) (w : World) : (Instr.makeSlice 31 (.int .i64 (m : Int)) (.int .i64 (m : Int))).run Try.prog w = .ok (.slice (some ⟨w.heap.size, 0, none⟩) m m) (w.alloc (.cells (u8s (List.replicate m 0)).toArray 5)) := by
  obtain ⟨i, hi, hz0, hz1, hz2⟩ := info_part info5
  have hr := run_make (P := Try.prog) w 31 5 i _ Try.underlying31 hi hz0 .i64 .i64 m m (by omega) (by omega) (by rw [hz2]; omega) (by omega)
  rw [hz1, Int.toNat_natCast] at hr
  have e : madeCells #[Value.int .u8 0] (m * 1) = (u8s (List.replicate m 0)).toArray := by
    apply Array.toList_inj.1
    rw [Nat.mul_one, toList_madeCells_one, List.toList_toArray]
    unfold u8s
    rw [List.map_replicate]
    rfl
  rw [← e]
  exact hr
theorem lay_mid {x y z b : List UInt8} {a : Nat} (hx : x.length = a) (hy : y.length = b.length) : lay (x ++ (y ++ z)) a b = x ++ (b ++ z) := by
  unfold lay
  rw [← hx, List.take_left, ← List.append_assoc x y z, List.drop_left' (by rw [List.length_append, hy]), List.append_assoc]
/-- a version's bytes -/
def verL (r a b P1 S1 : Nat) (d : List UInt8) : List UInt8 := nb r 8 ++ (nb a 8 ++ (nb b 8 ++ (nb P1 4 ++ (nb S1 2 ++ d))))
theorem verL_len (r a b P1 S1 : Nat) (d : List UInt8) : (verL r a b P1 S1 d).length = 30 + d.length := by
  unfold verL
  simp only [List.length_append, nb_len]
  omega
theorem rep_split (k m : Nat) : List.replicate (k + m) (0 : UInt8) = List.replicate k 0 ++ List.replicate m 0 := List.replicate_append_replicate.symm
theorem ver_eq (r a b P1 S1 : Nat) (d : List UInt8) (n : Nat) (hd : d.length = n) :
    lay (stampL (lay (lay (List.replicate (30 + n) 0) 0 (nb r 8)) 8 (nb a 8)) 0 b P1 S1) 30 d = verL r a b P1 S1 d := by
  have e1 : lay (List.replicate (30 + n) 0) 0 (nb r 8) = nb r 8 ++ List.replicate (22 + n) 0 := by
    rw [show 30 + n = 8 + (22 + n) by omega, rep_split]
    exact lay_mid (x := []) (y := List.replicate 8 0) rfl (by rw [nb_len, List.length_replicate])
  have e2 : lay (nb r 8 ++ List.replicate (22 + n) 0) 8 (nb a 8) = nb r 8 ++ (nb a 8 ++ List.replicate (14 + n) 0) := by
    rw [show 22 + n = 8 + (14 + n) by omega, rep_split]
    exact lay_mid (nb_len _ _) (by rw [nb_len, List.length_replicate])
  have e3 : lay (nb r 8 ++ (nb a 8 ++ List.replicate (14 + n) 0)) (0 + 16) (nb b 8) = nb r 8 ++ (nb a 8 ++ (nb b 8 ++ List.replicate (6 + n) 0)) := by
    rw [show 14 + n = 8 + (6 + n) by omega, rep_split, ← List.append_assoc, lay_mid (x := nb r 8 ++ nb a 8) (by rw [List.length_append, nb_len, nb_len]) (by rw [nb_len, List.length_replicate]), List.append_assoc]
  have e4 : lay (nb r 8 ++ (nb a 8 ++ (nb b 8 ++ List.replicate (6 + n) 0))) (0 + 24) (nb P1 4) = nb r 8 ++ (nb a 8 ++ (nb b 8 ++ (nb P1 4 ++ List.replicate (2 + n) 0))) := by
    rw [show 6 + n = 4 + (2 + n) by omega, rep_split, ← List.append_assoc, ← List.append_assoc, lay_mid (x := nb r 8 ++ nb a 8 ++ nb b 8) (by simp only [List.length_append, nb_len]) (by rw [nb_len, List.length_replicate]), List.append_assoc, List.append_assoc]
  have e5 : lay (nb r 8 ++ (nb a 8 ++ (nb b 8 ++ (nb P1 4 ++ List.replicate (2 + n) 0)))) (0 + 28) (nb S1 2) = nb r 8 ++ (nb a 8 ++ (nb b 8 ++ (nb P1 4 ++ (nb S1 2 ++ List.replicate n 0)))) := by
    rw [rep_split, ← List.append_assoc, ← List.append_assoc, ← List.append_assoc, lay_mid (x := nb r 8 ++ nb a 8 ++ nb b 8 ++ nb P1 4) (by simp only [List.length_append, nb_len]) (by rw [nb_len, List.length_replicate]), List.append_assoc, List.append_assoc, List.append_assoc]
  have e6 : lay (nb r 8 ++ (nb a 8 ++ (nb b 8 ++ (nb P1 4 ++ (nb S1 2 ++ List.replicate n 0))))) 30 d = verL r a b P1 S1 d := by
    unfold verL
    have h := lay_mid (x := nb r 8 ++ nb a 8 ++ nb b 8 ++ nb P1 4 ++ nb S1 2) (y := List.replicate n 0) (z := []) (b := d) (a := 30) (by simp only [List.length_append, nb_len]) (by rw [List.length_replicate, hd])
    simp only [List.append_assoc, List.append_nil] at h ⊢
    exact h
  unfold stampL
  rw [e1, e2, e3, e4, e5, e6]
theorem lay_splice (X d : List UInt8) (a : Nat) : u8s (lay X a d) = splice (u8s X) a (u8s d) := by
  unfold lay splice u8s
  simp [List.map_take, List.map_drop]
theorem version_any (r a b P1 S1 n c : Nat) (p s : Int) (A : Option Addr) (d : List UInt8) (w : World) (hd : d.length = n) (hn : n ≤ 900) (hs : Sl w w.heap.size 1 A n c (u8s d)) (hr : r < 18446744073709551616) (ha : a < 18446744073709551616) (hb : b < 18446744073709551616) (hp : p + 1 = P1) (hs1 : s + 1 = S1) (hP : P1 ≤ 65536) (hS : S1 ≤ 65535) :
    Calls Try.prog 78 #[.agg #[.int .u64 r, .int .u64 a, .int .u64 b, .int .i64 p, .int .i64 s, .slice A n c]] w fun e w' => e = .returned (.slice (some ⟨w.heap.size + 1, 0, none⟩) (30 + n) (30 + n)) ∧ BB w' (w.heap.size + 1) 5 (verL r a b P1 S1 d) ∧ Below w.heap.size w w' := by
  obtain ⟨wx, hwx⟩ : ∃ wx, w.alloc (.cells #[.int .u64 r, .int .u64 a, .int .u64 b, .int .i64 p, .int .i64 s, .slice A n c] 33) = wx := ⟨_, rfl⟩
  have HWX := Lib.hid hwx
  have hb4 := at_new w #[.int .u64 r, .int .u64 a, .int .u64 b, .int .i64 p, .int .i64 s, .slice A n c] 33
  rw [hwx] at hb4
  have g0 := hb4.2 0 (.int .u64 r) rfl
  have g1 := hb4.2 1 (.int .u64 a) rfl
  have g2 := hb4.2 2 (.int .u64 b) rfl
  have g3 := hb4.2 3 (.int .i64 p) rfl
  have g4 := hb4.2 4 (.int .i64 s) rfl
  have g5 := hb4.2 5 (.slice A n c) rfl
  rw [add_flat] at g0 g1 g2 g3 g4 g5
  have hsz : wx.heap.size = w.heap.size + 1 := by rw [← hwx, size_alloc]
  have hbx : Below w.heap.size w wx := by rw [← hwx]; exact bel_alloc _ _
  have HSW := Lib.hid hs
  have hmk := make_u8 (30 + n) (by omega)
  obtain ⟨bx, hbxx⟩ : ∃ bx, w.heap.size = bx := ⟨_, rfl⟩
  obtain ⟨V, hV⟩ : ∃ V, wx.heap.size = V := ⟨_, rfl⟩
  have hVb : V = bx + 1 := by omega
  have HVb := Lib.hid hVb
  obtain ⟨wv, hwv⟩ : ∃ wv, wx.alloc (.cells (u8s (List.replicate (30 + n) 0)).toArray 5) = wv := ⟨_, rfl⟩
  have hvs : wv.heap.size = bx + 2 := by rw [← hwv, size_alloc]; omega
  have HY : True := trivial
  have HY0 : Hid (BB wv V 5 (List.replicate (30 + n) 0)) := Lib.hid (by rw [← hwv, ← hV]; exact Blk.new _ _ _)
  have hbv : Below wx.heap.size wx wv := by rw [← hwv]; exact bel_alloc _ _
  have HBV : Hid (Below w.heap.size w wv) := Lib.hid (bel_trans hbx hbv)
  have hlt : bx < wx.heap.size := by omega
  rw [hbxx] at g0 g1 g2 g3 g4 g5
  have G0 := Lib.hid ((hbv.cell (p := ⟨bx, 0, none⟩) hlt).trans g0)
  have G1 := Lib.hid ((hbv.cell (p := ⟨bx, 1, none⟩) hlt).trans g1)
  have G2 := Lib.hid ((hbv.cell (p := ⟨bx, 2, none⟩) hlt).trans g2)
  have G3 := Lib.hid ((hbv.cell (p := ⟨bx, 3, none⟩) hlt).trans g3)
  have G4 := Lib.hid ((hbv.cell (p := ⟨bx, 4, none⟩) hlt).trans g4)
  have G5 := Lib.hid ((hbv.cell (p := ⟨bx, 5, none⟩) hlt).trans g5)
  have hn1 : (n : Int) ≤ 900 := by omega
  push_cast at hmk
  have HWV := Lib.hid hwv
  have HBX := Lib.hid hbxx
  have HD := Lib.hid hd
  clear hb4 g0 g1 g2 g3 g4 g5 hs hwx hwv hbv hbx hd
  go_enter Try.func78, Try.ntmps78
  go_wp2_with fail
  rw [HWX.out, HWV.out]
  have HBB0 : Hid (Below bx w wv) := Lib.hid (by rw [← HBX.out]; exact HBV.out)
  have HSV : Hid (Sl wv bx 1 A n c (u8s d)) := Lib.hid (by rw [← HBX.out]; exact HSW.out.below HBV.out)
  rw [hVb] at HY0
  have HLN0 : Hid ((List.replicate (30 + n) (0 : UInt8)).length = 30 + n) := Lib.hid List.length_replicate
  obtain ⟨Y0, hY0⟩ : ∃ Y0, List.replicate (30 + n) (0 : UInt8) = Y0 := ⟨_, rfl⟩
  have HYE := Lib.hid hY0
  rw [hY0] at HY0 HLN0
  have e1 := lay_len (X := Y0) (b := nb r 8) (a := 0) (by rw [nb_len, HLN0.out]; omega)
  have e2 := lay_len (X := lay Y0 0 (nb r 8)) (b := nb a 8) (a := 8) (by rw [nb_len, e1, HLN0.out]; omega)
  have e3 := stampL_len (X := lay (lay Y0 0 (nb r 8)) 8 (nb a 8)) (a := 0) (U := b) (P1 := P1) (S1 := S1) (by rw [e2, e1, HLN0.out]; omega)
  have HL1 := Lib.hid (e1.trans HLN0.out)
  have HL2 := Lib.hid (e2.trans HL1.out)
  have HL3 := Lib.hid (e3.trans HL2.out)
  have HN := Lib.hid hn
  clear e1 e2 e3 hY0 HY
  have k1 : (8 : Int) ≤ 30 + n := by omega
  have k2 : (16 : Int) ≤ 30 + n := by omega
  have k3 : (30 : Int) ≤ 30 + n := by omega
  have k4 : ¬ 30 + n = 8 := by omega
  have k5 : ¬ 30 + n = 0 := by omega
  have c0 := G0.out
  go_region_held3 (fun w' => w'.cell? ⟨bx, 0, none⟩ = some (.int .u64 r)) (first | go_keep | exact hoa.cell (p := ⟨bx, 0, none⟩) (by show bx < wv.heap.size; omega) (by show bx ≠ bx + 1; omega) (by assumption))
    (first
      | (go_at_call 97; refine (write_any (bx + 1) 5 _ 0 8 (30 + n) r _ (BB.drew HY0.out) (by rw [HLN0.out]; omega) (by omega) (by omega) (by unfold maxLen; have := HN.out; omega) hr).mono ?_; rintro e wa ⟨rfl, hba, hoa⟩))
  have HA := Lib.hid hba
  have HOA : Hid (Only (bx + 1) wv wa) := Lib.hid ((Only.refl _ _).drew.trans hoa)
  have hsa : wv.heap.size ≤ wa.heap.size := hoa.size
  have c1 := HOA.out.cell (p := ⟨bx, 1, none⟩) (by show bx < wv.heap.size; omega) (by show bx ≠ bx + 1; omega) G1.out
  clear hba hoa c0
  go_wp2_with fail
  go_region_held3 (fun w' => w'.cell? ⟨bx, 1, none⟩ = some (.int .u64 a)) (first | go_keep | exact hob.cell (p := ⟨bx, 1, none⟩) (by show bx < wa.heap.size; omega) (by show bx ≠ bx + 1; omega) (by assumption))
    (first
      | (go_at_call 97; refine (write_any (bx + 1) 5 _ 8 8 (30 + n - 8) a _ (BB.drew HA.out) (by rw [HL1.out]; omega) (by omega) (by omega) (by unfold maxLen; have := HN.out; omega) ha).mono ?_; rintro e wb ⟨rfl, hbb, hob⟩))
  have HB := Lib.hid hbb
  have HOB : Hid (Only (bx + 1) wv wb) := Lib.hid (HOA.out.drew.trans hob)
  have hsb : wa.heap.size ≤ wb.heap.size := hob.size
  have c2 := HOB.out.cell (p := ⟨bx, 2, none⟩) (by show bx < wv.heap.size; omega) (by show bx ≠ bx + 1; omega) G2.out
  have c3 := HOB.out.cell (p := ⟨bx, 3, none⟩) (by show bx < wv.heap.size; omega) (by show bx ≠ bx + 1; omega) G3.out
  have c4 := HOB.out.cell (p := ⟨bx, 4, none⟩) (by show bx < wv.heap.size; omega) (by show bx ≠ bx + 1; omega) G4.out
  clear hbb hob c1
  go_wp2_with fail
  refine (stamp_any (bx + 1) 5 _ 0 (30 + n) (30 + n) b P1 S1 p s _ HB.out (by rw [HL2.out]; omega) (by omega) (by omega) (by unfold maxLen; have := HN.out; omega) hb hp hs1 hP hS).mono ?_
  rintro e wc ⟨rfl, hbc, hoc⟩
  have HC := Lib.hid hbc
  have HOC : Hid (Only (bx + 1) wv wc) := Lib.hid (HOB.out.trans hoc)
  have hsc : wb.heap.size ≤ wc.heap.size := hoc.size
  have c5 := HOC.out.cell (p := ⟨bx, 5, none⟩) (by show bx < wv.heap.size; omega) (by show bx ≠ bx + 1; omega) G5.out
  have HBC : Hid (Below bx w wc) := Lib.hid (HBB0.out.trans (HOC.out.below (by omega) (by omega)))
  have HSC := Lib.hid (HSV.out.below (HOC.out.below (by omega) (by omega)))
  clear hbc hoc c2 c3 c4
  go_wp2_with fail
  have hfin : ∀ we, Hid (we.heap[bx + 1]? = some (.cells (splice (u8s (stampL (lay (lay Y0 0 (nb r 8)) 8 (nb a 8)) 0 b P1 S1)) 30 (u8s d)).toArray 5 (0, 0))) → BB we (bx + 1) 5 (verL r a b P1 S1 d) := by
    intro we h
    have h := h.out
    rw [← lay_splice, ← HYE.out, ver_eq r a b P1 S1 d n HD.out] at h
    exact h
  have HFIN := Lib.hid hfin
  clear hfin
  have HLD : Hid ((u8s d).length = n) := Lib.hid (by rw [u8s_len]; exact HD.out)
  have HLC : Hid ((u8s (stampL (lay (lay Y0 0 (nb r 8)) 8 (nb a 8)) 0 b P1 S1)).length = 30 + n) := Lib.hid (by rw [u8s_len]; exact HL3.out)
  by_cases hn0 : n = 0
  · subst hn0
    have k6 : (30 : Int) ≤ 30 := Int.le_refl _
    go_region_held3 (fun w' => w'.cell? ⟨bx, 5, none⟩ = some (.slice A 0 c)) (first | go_keep | exact (hbe2.cell (p := ⟨bx, 5, none⟩) (by show bx < bx + 1; omega)).trans (by assumption))
      (first
        | (refine step_copy_splice (by rfl) _ _ _ _ (by rfl) 5 Try.underlying31 size5 _ _ _ _ _ _ (by rfl) (by rfl) (bx + 1) 30 (u8s (stampL (lay (lay Y0 0 (nb r 8)) 8 (nb a 8)) 0 b P1 S1)) 5 HC.out (u8s d) (by rw [HLD.out]; rfl) (fun h => by rw [HLD.out] at h; omega) (by rw [HLD.out, HLC.out]; omega) (u8s_one _) (bx + 1) wc ((Below.refl (bx + 1) wc).drew) (Nat.le_refl _) ?_; intro we hge hbe2))
    have HE := Lib.hid (HFIN.out we hge)
    have HBE : Hid (Below bx w we) := Lib.hid (HBC.out.trans (hbe2.mono (by omega)))
    clear hge hbe2
    go_wp2_with fail
    go_ret
    exact ⟨by rw [HBX.out] <;> rfl, by rw [HBX.out]; exact HE.out, by rw [HBX.out]; exact HBE.out⟩
  · obtain ⟨ad, hA, hAt⟩ := HSC.out.at_ (by omega)
    subst hA
    have HAT := Lib.hid hAt
    clear hAt
    have k6 : ¬ 30 + n = 30 := by omega
    go_region_held3 (fun w' => w'.cell? ⟨bx, 5, none⟩ = some (.slice (some ad) n c)) (first | go_keep | exact (hbe2.cell (p := ⟨bx, 5, none⟩) (by show bx < bx + 1; omega)).trans (by assumption))
      (first
        | (refine step_copy_splice (by rfl) _ _ _ _ (by rfl) 5 Try.underlying31 size5 _ _ _ _ _ _ (by rfl) (by rfl) (bx + 1) 30 (u8s (stampL (lay (lay Y0 0 (nb r 8)) 8 (nb a 8)) 0 b P1 S1)) 5 HC.out (u8s d) (by rw [HLD.out]; simp) (fun h => ⟨by rfl, ad, by rfl, HAT.out.2⟩) (by rw [HLD.out, HLC.out]; omega) (u8s_one _) (bx + 1) wc ((Below.refl (bx + 1) wc).drew) (Nat.le_refl _) ?_; intro we hge hbe2))
    have HE := Lib.hid (HFIN.out we hge)
    have HBE : Hid (Below bx w we) := Lib.hid (HBC.out.trans (hbe2.mono (by omega)))
    clear hge hbe2
    go_wp2_with fail
    go_ret
    exact ⟨by rw [HBX.out] <;> rfl, by rw [HBX.out]; exact HE.out, by rw [HBX.out]; exact HBE.out⟩
end Go.Proofs.Ythghnhcopmmmpaa.Mem
/- page.place. -/
namespace Go.Proofs.Ythghnhcopmmmpaa.Mem
open Go.RowKit Go.Proofs.Ythghnhcopmmmpaa.Nums
set_option linter.unusedVariables false
set_option linter.unusedSimpArgs false
set_option maxRecDepth 100000
set_option maxHeartbeats 4000000
theorem wpl_copy_bb {w : World} {ops : Array Oper} {rest : List Oper} {o : Oper} {a : Act} {Q : Exit → Act → World → Prop} (hgd : o.guard = none) (d s : Operand)
    (ho : o.op = .call { callee := .builtin .copy, args := #[d, s], argTypes := #[31, 31] })
    (g off dLen dCap : Nat) (ad : Addr) (sLen sCap : Nat) (hd : a.eval d = .slice (some ⟨g, off, none⟩) dLen dCap) (hs : a.eval s = .slice (some ad) sLen sCap)
    (X : List UInt8) (t : TypeId) (hg : BB w g t X) (vl : List UInt8) (hn : vl.length = Nat.min sLen dLen) (hsrc : ∀ j v, (u8s vl)[j]? = some v → w.cell? (ad.add j) = some v) (hfit : off + vl.length ≤ X.length)
    (h : ∀ w1, BB w1 g t (lay X off vl) → Only g w w1 → wpList Try.prog ops Q rest (a.put o.dst (goInt (u8s vl).length)) w1) : wpList Try.prog ops Q (o :: rest) a w := by
  refine wpList_copy_own hgd d s _ _ ho 5 Try.underlying31 size5 g off dLen dCap ad sLen sCap hd hs (u8s X).toArray t hg (u8s vl) (by rw [u8s_len]; exact hn) hsrc (by rw [List.size_toArray, u8s_len, u8s_len]; exact hfit) (u8s_one _) (h _ ?_ ?_)
  · have e := lay_splice X vl off
    unfold splice at e
    unfold BB Blk
    rw [e, List.toList_toArray]
    exact setRow_heap w g _ _ t _ hg
  · exact ⟨rfl, rfl, rfl, by simp [World.setRow], fun k _ hk => setRow_other w g k _ hk⟩
/-- a page behind 'place' -/
def placeL (X : List UInt8) (s at_ : Nat) (vl : List UInt8) : List UInt8 := lay (lay (lay (lay X at_ vl) 2 (nb at_ 2)) (4 + 4 * s) (nb at_ 2)) (6 + 4 * s) (nb vl.length 2)
theorem placeL_len {X vl : List UInt8} {s at_ : Nat} (hX : X.length = 512) (h1 : at_ + vl.length ≤ 512) (h2 : 8 + 4 * s ≤ 512) : (placeL X s at_ vl).length = 512 := by
  unfold placeL
  have e1 := lay_len (X := X) (b := vl) (a := at_) (by omega)
  have e2 := lay_len (X := lay X at_ vl) (b := nb at_ 2) (a := 2) (by rw [nb_len, e1]; omega)
  have e3 := lay_len (X := lay (lay X at_ vl) 2 (nb at_ 2)) (b := nb at_ 2) (a := 4 + 4 * s) (by rw [nb_len, e2, e1]; omega)
  rw [lay_len (by rw [nb_len, e3, e2, e1]; omega), e3, e2, e1, hX]
theorem place_pg (P s at_ L c : Nat) (X vl : List UInt8) (ad : Addr) (w : World) (hp : Pg w P X) (hbg : bgN X = at_ + L) (hat : at_ + L ≤ 512) (hvl : vl.length = L) (hL : 1 ≤ L) (hs : 8 + 4 * s ≤ 512) (hsrc : ∀ j v, (u8s vl)[j]? = some v → w.cell? (ad.add j) = some v) :
    Calls Try.prog 82 #[.pointer (some ⟨P, 0, none⟩), .int .i64 s, .slice (some ad) L c] w fun e w' => e = .returned (.tuple #[]) ∧ Pg w' P (placeL X s at_ vl) ∧ Only P w w' := by
  have HP := Lib.hid hp
  have C1 := Lib.hid (begin_pg P X w hp)
  have e : get2 X 2 = at_ + L := hbg
  rw [e] at C1
  push_cast at C1
  have HSRC := Lib.hid hsrc
  have HVL := Lib.hid hvl
  have k1 : (at_ : Int) ≤ 512 := by omega
  have k2 : (0 : Int) ≤ at_ := Int.natCast_nonneg _
  have k3 : (at_ : Int) + L ≤ 512 := by omega
  have k4 : ¬ 512 - at_ = 0 := by omega
  have k5 : (1 : Int) ≤ L := by omega
  have e1 := lay_len (X := X) (b := vl) (a := at_) (by rw [hp.2]; omega)
  have e2 := lay_len (X := lay X at_ vl) (b := nb at_ 2) (a := 2) (by rw [nb_len, e1, hp.2]; omega)
  have e3 := lay_len (X := lay (lay X at_ vl) 2 (nb at_ 2)) (b := nb at_ 2) (a := 4 + 4 * s) (by rw [nb_len, e2, e1, hp.2]; omega)
  have HL1 := Lib.hid (e1.trans hp.2)
  have HL2 := Lib.hid (e2.trans HL1.out)
  have HL3 := Lib.hid (e3.trans HL2.out)
  have HAT := Lib.hid (And.intro hat hs)
  have HLEN := Lib.hid (placeL_len (X := X) (vl := vl) (s := s) (at_ := at_) hp.2 (by omega) hs)
  clear e e1 e2 e3 hbg hsrc hp hat hvl hL hs
  go_enter Try.func82, Try.ntmps82
  go_wp2_with fail
  refine C1.out.mono ?_
  rintro e w1 ⟨rfl, rfl⟩
  go_wp2_with (refine wpl_copy_bb rfl (.tmp 17) (.tmp 18) rfl P at_ (512 - at_) (512 - at_) ad L c rfl rfl X 113 HP.out.1 vl (by rw [HVL.out]; exact (Nat.min_eq_left (by have := HAT.out; omega)).symm) HSRC.out (by rw [HP.out.2, HVL.out]; exact HAT.out.1) ?_; intro wa hba hoa)
  have HA : Hid (Pg wa P (lay X at_ vl)) := Lib.hid ⟨hba, HL1.out⟩
  have HOA := Lib.hid hoa
  clear hba hoa
  go_wp2_with fail
  refine (setBegin_pg P at_ _ _ HA.out (by have := HAT.out; omega)).mono ?_
  rintro e wb ⟨rfl, hpb, hob⟩
  have HB := Lib.hid hpb
  have HOB := Lib.hid (HOA.out.trans hob)
  clear hpb hob
  go_wp2_with fail
  refine (slot_pg P s _ (by have := HAT.out; omega)).mono ?_
  rintro e wc ⟨rfl, rfl⟩
  obtain ⟨q, hq⟩ : ∃ q, 4 + 4 * s = q := ⟨_, rfl⟩
  have HQ := Lib.hid hq
  rw [hq]
  clear hq
  have hqb : q + 4 ≤ 512 := by have := HAT.out; have := HQ.out; omega
  obtain ⟨cq, hcq⟩ : ∃ cq, 512 - q = cq := ⟨_, rfl⟩
  rw [hcq]
  have hcq4 : 4 ≤ cq := by omega
  have hcq5 : cq ≤ 512 := by omega
  have hi2 : (2 : Int) ≤ cq := by omega
  have hne : ¬ cq = 2 := by omega
  have hat64 : IntKind.u64.wrap (at_ : Int) = at_ := by rw [IntKind.wrap_u64]; omega
  have hL64 : IntKind.u64.wrap (L : Int) = L := by rw [IntKind.wrap_u64]; omega
  clear hcq
  go_wp2_with fail
  refine (write_any P 113 _ q 2 cq at_ _ HB.out.1 (by rw [HL2.out]; omega) (by omega) (by omega) (by unfold maxLen; omega) (by omega)).mono ?_
  rintro e wd ⟨rfl, hbd, hod⟩
  have HD := Lib.hid hbd
  have HOD := Lib.hid (HOB.out.trans hod)
  clear hbd hod
  go_wp2_with fail
  refine (write_any P 113 _ (q + 2) 2 (cq - 2) L _ HD.out (by rw [← HQ.out, HL3.out]; have := HAT.out; omega) (by omega) (by omega) (by unfold maxLen; omega) (by omega)).mono ?_
  rintro e we ⟨rfl, hbe, hoe⟩
  have HE : Hid (Pg we P (placeL X s at_ vl)) := Lib.hid ⟨by
    unfold placeL
    rw [HVL.out, show 6 + 4 * s = q + 2 by have := HQ.out; omega, HQ.out]
    exact hbe, HLEN.out⟩
  have HOE := Lib.hid (HOD.out.trans hoe)
  clear hbe hoe
  go_wp2_with fail
  exact bodyPost_end (v := .tuple #[]) (by simp [results, Try.results82, go_sem]) rfl ⟨rfl, HE.out, HOE.out⟩
end Go.Proofs.Ythghnhcopmmmpaa.Mem
/- bytes.Clone, page.tuple. -/
namespace Go.Proofs.Ythghnhcopmmmpaa.Mem
open Go.RowKit Go.Proofs.Ythghnhcopmmmpaa.Nums
set_option linter.unusedVariables false
set_option linter.unusedSimpArgs false
set_option maxRecDepth 100000
set_option maxHeartbeats 4000000
attribute [local go_sem] nil_nil some_nil
def OwnB (w : World) (B : Nat) (v : Value) (n : Nat) (xs : List Value) : Prop := w.ownsRow B 5 1 v n xs
theorem own_eq {w : World} {B : Nat} {v : Value} {n n' : Nat} {xs xs' : List Value} (h : OwnB w B v n xs) (hn : n = n') (hx : xs = xs') : OwnB w B v n' xs' := by subst hn hx; exact h
theorem wpl_app_b {w : World} {ops : Array Oper} {rest : List Oper} {o : Oper} {a : Act} {Q : Exit → Act → World → Prop} (hgd : o.guard = none) (s x : Operand)
    (ho : o.op = .call { callee := .builtin .append, args := #[s, x], argTypes := #[31, 31] })
    (base : Nat) (v : Value) (n : Nat) (xs : List Value) (hs : a.eval s = v) (hown : OwnB w base v n xs)
    (B : Nat) (y : Value) (m : Nat) (news : List Value) (hy : a.eval x = y) (hx : Lies w B 1 y m news) (h1 : ∀ u ∈ news, u.oneCell' = true)
    (hbytes : n + m ≤ 140737488355328) (hbase : base ≤ w.heap.size)
    (h : ∀ v' w', OwnB w' base v' (n + m) (xs ++ news) → Kin w w' v v' → wpList Try.prog ops Q rest (a.put o.dst v') w') : wpList Try.prog ops Q (o :: rest) a w :=
  wpList_plain hgd fun _ hK => by
    obtain ⟨i, hi, hz0, hz1, hz2⟩ := info_part info5
    exact wp_append_mem w s x _ ho base 5 i _ 1 1 Try.underlying31 hi hz0 hz1 hz2 rfl (by omega) v n xs hs hown B y m news hy hx h1 (by unfold maxLen; omega) (by omega) hbase fun v' w' h2 h3 => hK _ _ (h v' w' h2 h3)
theorem bel_app {w w1 : World} {o : Obj} {v1 : Value} {n c : Nat} (hg : Kin (w.alloc o) w1 (.slice (some ⟨w.heap.size, 0, none⟩) n c) v1) : Below w.heap.size w w1 :=
  (bel_alloc w o).trans (hg.below (by rw [size_alloc]; omega) (fun k hk => by simp [Value.ownBlock] at hk; omega))
theorem own_empty (w : World) : OwnB (w.alloc (.cells #[] 5)) w.heap.size (.slice (some ⟨w.heap.size, 0, none⟩) 0 0) 0 [] := World.ownsRow_lit w #[] 0 (Nat.le_refl _) (by unfold maxLen; omega) rfl
theorem clone_any (x : List UInt8) (ad : Addr) (n c : Nat) (w : World) (hx : Sl w w.heap.size 1 (some ad) n c (u8s x)) (hn : n ≤ 1000000) :
    Calls Try.prog 65 #[.slice (some ad) n c] w fun e w' => ∃ v, e = .returned v ∧ OwnB w' w.heap.size v n (u8s x) ∧ Below w.heap.size w w' := by
  have HX := Lib.hid hx
  clear hx
  go_enter Try.func65, Try.ntmps65
  go_wp2_with (at_builtin; (refine wpl_app_b rfl (.tmp 5) (.tmp 6) rfl w.heap.size _ 0 [] rfl (own_empty w) _ _ n _ rfl (HX.out.below (bel_alloc _ _)).lies (u8s_one _) (by omega) (by rw [size_alloc]; omega) ?_; intro v1 w1 hown1 hgrow1))
  go_ret
  exact ⟨_, rfl, own_eq hown1 (by omega) rfl, bel_app hgrow1⟩
theorem own_mono {w : World} {B B' sz n : Nat} {e : TypeId} {v : Value} {xs : List Value} (h : w.ownsRow B e sz v n xs) (hB : B' ≤ B) : w.ownsRow B' e sz v n xs := by
  refine ⟨h.1, ?_⟩
  rcases h.2 with h0 | ⟨g, cap, cur, hv, hb, rest⟩
  · exact .inl h0
  · exact .inr ⟨g, cap, cur, hv, Nat.le_trans hB hb, rest⟩
theorem Blk.drew {w : World} {g : Nat} {t : TypeId} {cs : Array Value} (h : Blk w g t cs) : Blk w.drew g t cs := h
/-- so many bytes of a block, as a number -/
def getN (X : List UInt8) (a m : Nat) : Nat := leN ((X.drop a).take m)
theorem rdB {w : World} {g : Nat} {t : TypeId} {X : List UInt8} (hb : BB w g t X) (a m c : Nat) (ha : a + m ≤ X.length) (hm : m ≤ 8) (hc : m ≤ c) (hcm : c ≤ 100000) :
    Calls Try.prog 72 #[.slice (some ⟨g, a, none⟩) m c] w fun e w' => e = .returned (.int .u64 (getN X a m : Nat)) ∧ w = w' :=
  read_any _ w.heap.size _ _ _ w hm (BB.sl hb a m c ha hc (by unfold maxLen; omega))
theorem getN_lt (X : List UInt8) (a m : Nat) : getN X a m < 2 ^ (8 * m) := by
  have h1 := leN_lt ((X.drop a).take m)
  have h2 : ((X.drop a).take m).length ≤ m := by rw [List.length_take]; omega
  exact Nat.lt_of_lt_of_le h1 (Nat.pow_le_pow_right (by omega) (by omega))
theorem tuple_any (g f z c : Nat) (t : TypeId) (X : List UInt8) (w : World) (hb : BB w g t X) (hX : f + z ≤ X.length) (h30 : 30 ≤ z) (hz : z ≤ c) (hc : c ≤ 100000) (hXb : X.length ≤ 100000) :
    Calls Try.prog 73 #[.slice (some ⟨g, f, none⟩) z c] w fun e w' => ∃ v, e = .returned (.agg #[.int .u64 (getN X f 8 : Nat), .int .u64 (getN X (f + 8) 8 : Nat), .int .u64 (getN X (f + 16) 8 : Nat), .int .i64 ((getN X (f + 24) 4 : Nat) - 1), .int .i64 ((getN X (f + 28) 2 : Nat) - 1), v]) ∧ OwnB w' w.heap.size v (z - 30) (u8s ((X.drop (f + 30)).take (z - 30))) ∧ Below w.heap.size w w' := by
  have hgl : g < w.heap.size := Blk.lt hb
  have HB0 : Hid (BB (w.alloc (.cells #[.int .u64 0, .int .u64 0, .int .u64 0, .int .i64 0, .int .i64 0, .slice none 0 0] 33)) g t X) := Lib.hid (Blk.alloc hb _)
  have HT0 : Hid (Blk (w.alloc (.cells #[.int .u64 0, .int .u64 0, .int .u64 0, .int .i64 0, .int .i64 0, .slice none 0 0] 33)) w.heap.size 33 #[.int .u64 0, .int .u64 0, .int .u64 0, .int .i64 0, .int .i64 0, .slice none 0 0]) := Lib.hid (Blk.new w _ _)
  have HBE0 : Hid (Below w.heap.size w (w.alloc (.cells #[.int .u64 0, .int .u64 0, .int .u64 0, .int .i64 0, .int .i64 0, .slice none 0 0] 33))) := Lib.hid (bel_alloc _ _)
  have hsx := size_alloc w (.cells #[.int .u64 0, .int .u64 0, .int .u64 0, .int .i64 0, .int .i64 0, .slice none 0 0] 33)
  clear hb
  have k1 : (8 : Int) ≤ c := by omega
  have k2 : (16 : Int) ≤ c := by omega
  have k3 : (24 : Int) ≤ c := by omega
  have k4 : (28 : Int) ≤ c := by omega
  have k5 : (30 : Int) ≤ c := by omega
  have k6 : (30 : Int) ≤ z := by omega
  have k7 : (z : Int) ≤ c := by omega
  have j1 : ¬ c = 8 := by omega
  have j2 : ¬ c = 16 := by omega
  have j3 : ¬ c = 24 := by omega
  have j4 : ¬ c = 28 := by omega
  have g4 := getN_lt X (f + 24) 4
  have g2 := getN_lt X (f + 28) 2
  have w1 : IntKind.i64.wrap ((getN X (f + 24) 4 : Nat) : Int) = (getN X (f + 24) 4 : Nat) := by rw [IntKind.wrap_i64]; omega
  have w2 : IntKind.i64.wrap (((getN X (f + 24) 4 : Nat) : Int) - 1) = (getN X (f + 24) 4 : Nat) - 1 := by rw [IntKind.wrap_i64]; omega
  have w3 : IntKind.i64.wrap ((getN X (f + 28) 2 : Nat) : Int) = (getN X (f + 28) 2 : Nat) := by rw [IntKind.wrap_i64]; omega
  have w4 : IntKind.i64.wrap (((getN X (f + 28) 2 : Nat) : Int) - 1) = (getN X (f + 28) 2 : Nat) - 1 := by rw [IntKind.wrap_i64]; omega
  have hTT : True := trivial
  clear g4 g2
  by_cases hc30 : c = 30
  · subst hc30
    obtain rfl : z = 30 := by omega
    go_enter Try.func73, Try.ntmps73
    go_wp2_with fail
    go_region_held3 (fun _ => True) (first | go_keep | exact trivial)
      (first
        | (go_at_call 72; refine (rdB (BB.drew HB0.out) _ _ _ (by omega) (by omega) (by omega) (by omega)).mono ?_; rintro e w2 ⟨rfl, rfl⟩)
        | (go_at_call 65; refine (clone_any ((X.drop (f + 30)).take 0) ⟨g, f, none⟩ 0 0 _ (by rw [List.take_zero]; exact ⟨rfl, Nat.le_refl _, Nat.zero_le _, (fun e => by cases e), fun h => absurd h (by omega)⟩) (by omega)).mono ?_; rintro e wc ⟨vc, rfl, hown, hbc⟩; obtain ⟨Av, cv, hv, hsv⟩ := Sl.of_own hown; subst hv; have HT1 := Lib.hid (Blk.below (Blk.drew HT0.out) hbc (by show w.heap.size < (w.alloc _).heap.size; omega)); have q0 := HT1.out.cell 0; have q1 := HT1.out.cell 1; have q2 := HT1.out.cell 2; have q3 := HT1.out.cell 3; have q4 := HT1.out.cell 4; have q5 := HT1.out.cell 5; have p0 := HT1.out.frozen 0; have p1 := HT1.out.frozen 1; have p2 := HT1.out.frozen 2; have p3 := HT1.out.frozen 3; have p4 := HT1.out.frozen 4; have p5 := HT1.out.frozen 5))
    go_wp2_with fail
    have HF := Lib.hid (Blk.set_ (Blk.set_ (Blk.set_ (Blk.set_ (Blk.set_ (Blk.set_ HT1.out 0 (.int .u64 (getN X f 8 : Nat))) 1 (.int .u64 (getN X (f + 8) 8 : Nat))) 2 (.int .u64 (getN X (f + 16) 8 : Nat))) 3 (.int .i64 ((getN X (f + 24) 4 : Nat) - 1))) 4 (.int .i64 ((getN X (f + 28) 2 : Nat) - 1))) 5 (.slice Av (0) cv))
    have HOW := Lib.hid (own_keep (own_mono hown (by show w.heap.size ≤ (w.alloc _).heap.size; omega)) (w' := (((((wc.setCell ⟨w.heap.size, 0, none⟩ (.int .u64 (getN X f 8 : Nat))).setCell ⟨w.heap.size, 1, none⟩ (.int .u64 (getN X (f + 8) 8 : Nat))).setCell ⟨w.heap.size, 2, none⟩ (.int .u64 (getN X (f + 16) 8 : Nat))).setCell ⟨w.heap.size, 3, none⟩ (.int .i64 ((getN X (f + 24) 4 : Nat) - 1))).setCell ⟨w.heap.size, 4, none⟩ (.int .i64 ((getN X (f + 28) 2 : Nat) - 1))).setCell ⟨w.heap.size, 5, none⟩ (.slice Av (0) cv)) (fun k hk => by
      have h1 := (hown.lt k hk).1
      have h2 : w.heap.size ≠ k := by intro e; have h3 : (w.alloc (.cells #[.int .u64 0, .int .u64 0, .int .u64 0, .int .i64 0, .int .i64 0, .slice none 0 0] 33)).heap.size ≤ k := h1; omega
      rw [Below.heap_setCell _ _ _ _ (Ne.symm h2), Below.heap_setCell _ _ _ _ (Ne.symm h2), Below.heap_setCell _ _ _ _ (Ne.symm h2), Below.heap_setCell _ _ _ _ (Ne.symm h2), Below.heap_setCell _ _ _ _ (Ne.symm h2), Below.heap_setCell _ _ _ _ (Ne.symm h2)]))
    have HBW := Lib.hid (((((((HBE0.out.drew.trans (hbc.mono (by show w.heap.size ≤ (w.alloc _).heap.size; omega))).setCell (p := ⟨w.heap.size, 0, none⟩) (Nat.le_refl _) (.int .u64 (getN X f 8 : Nat))).setCell (p := ⟨w.heap.size, 1, none⟩) (Nat.le_refl _) (.int .u64 (getN X (f + 8) 8 : Nat))).setCell (p := ⟨w.heap.size, 2, none⟩) (Nat.le_refl _) (.int .u64 (getN X (f + 16) 8 : Nat))).setCell (p := ⟨w.heap.size, 3, none⟩) (Nat.le_refl _) (.int .i64 ((getN X (f + 24) 4 : Nat) - 1))).setCell (p := ⟨w.heap.size, 4, none⟩) (Nat.le_refl _) (.int .i64 ((getN X (f + 28) 2 : Nat) - 1))).setCell (p := ⟨w.heap.size, 5, none⟩) (Nat.le_refl _) (.slice Av (0) cv))
    obtain ⟨wf, hwf⟩ : ∃ wf, (((((wc.setCell ⟨w.heap.size, 0, none⟩ (.int .u64 (getN X f 8 : Nat))).setCell ⟨w.heap.size, 1, none⟩ (.int .u64 (getN X (f + 8) 8 : Nat))).setCell ⟨w.heap.size, 2, none⟩ (.int .u64 (getN X (f + 16) 8 : Nat))).setCell ⟨w.heap.size, 3, none⟩ (.int .i64 ((getN X (f + 24) 4 : Nat) - 1))).setCell ⟨w.heap.size, 4, none⟩ (.int .i64 ((getN X (f + 28) 2 : Nat) - 1))).setCell ⟨w.heap.size, 5, none⟩ (.slice Av (0) cv) = wf := ⟨_, rfl⟩
    rw [hwf] at HF HOW HBW ⊢
    have r0 := HF.out.cell 0
    have r1 := HF.out.cell 1
    have r2 := HF.out.cell 2
    have r3 := HF.out.cell 3
    have r4 := HF.out.cell 4
    have r5 := HF.out.cell 5
    clear hwf q0 q1 q2 q3 q4 q5 p0 p1 p2 p3 p4 p5
    exact bodyPost_ret (v := .agg #[.int .u64 (getN X f 8 : Nat), .int .u64 (getN X (f + 8) 8 : Nat), .int .u64 (getN X (f + 16) 8 : Nat), .int .i64 ((getN X (f + 24) 4 : Nat) - 1), .int .i64 ((getN X (f + 28) 2 : Nat) - 1), .slice Av (0) cv]) (by simp [results, Try.results73, go_sem, r0, r1, r2, r3, r4, r5]) rfl ⟨_, rfl, HOW.out, HBW.out⟩
  · go_enter Try.func73, Try.ntmps73
    go_wp2_with fail
    go_region_held3 (fun _ => True) (first | go_keep | exact trivial)
      (first
        | (go_at_call 72; refine (rdB (BB.drew HB0.out) _ _ _ (by omega) (by omega) (by omega) (by omega)).mono ?_; rintro e w2 ⟨rfl, rfl⟩)
        | (go_at_call 65; refine (clone_any ((X.drop (f + 30)).take (z - 30)) ⟨g, f + 30, none⟩ (z - 30) (c - 30) _ (BB.sl (BB.drew HB0.out) (f + 30) (z - 30) (c - 30) (by omega) (by omega) (by unfold maxLen; omega)) (by omega)).mono ?_; rintro e wc ⟨vc, rfl, hown, hbc⟩; obtain ⟨Av, cv, hv, hsv⟩ := Sl.of_own hown; subst hv; have HT1 := Lib.hid (Blk.below (Blk.drew HT0.out) hbc (by show w.heap.size < (w.alloc _).heap.size; omega)); have q0 := HT1.out.cell 0; have q1 := HT1.out.cell 1; have q2 := HT1.out.cell 2; have q3 := HT1.out.cell 3; have q4 := HT1.out.cell 4; have q5 := HT1.out.cell 5; have p0 := HT1.out.frozen 0; have p1 := HT1.out.frozen 1; have p2 := HT1.out.frozen 2; have p3 := HT1.out.frozen 3; have p4 := HT1.out.frozen 4; have p5 := HT1.out.frozen 5))
    go_wp2_with fail
    have HF := Lib.hid (Blk.set_ (Blk.set_ (Blk.set_ (Blk.set_ (Blk.set_ (Blk.set_ HT1.out 0 (.int .u64 (getN X f 8 : Nat))) 1 (.int .u64 (getN X (f + 8) 8 : Nat))) 2 (.int .u64 (getN X (f + 16) 8 : Nat))) 3 (.int .i64 ((getN X (f + 24) 4 : Nat) - 1))) 4 (.int .i64 ((getN X (f + 28) 2 : Nat) - 1))) 5 (.slice Av (z - 30) cv))
    have HOW := Lib.hid (own_keep (own_mono hown (by show w.heap.size ≤ (w.alloc _).heap.size; omega)) (w' := (((((wc.setCell ⟨w.heap.size, 0, none⟩ (.int .u64 (getN X f 8 : Nat))).setCell ⟨w.heap.size, 1, none⟩ (.int .u64 (getN X (f + 8) 8 : Nat))).setCell ⟨w.heap.size, 2, none⟩ (.int .u64 (getN X (f + 16) 8 : Nat))).setCell ⟨w.heap.size, 3, none⟩ (.int .i64 ((getN X (f + 24) 4 : Nat) - 1))).setCell ⟨w.heap.size, 4, none⟩ (.int .i64 ((getN X (f + 28) 2 : Nat) - 1))).setCell ⟨w.heap.size, 5, none⟩ (.slice Av (z - 30) cv)) (fun k hk => by
      have h1 := (hown.lt k hk).1
      have h2 : w.heap.size ≠ k := by intro e; have h3 : (w.alloc (.cells #[.int .u64 0, .int .u64 0, .int .u64 0, .int .i64 0, .int .i64 0, .slice none 0 0] 33)).heap.size ≤ k := h1; omega
      rw [Below.heap_setCell _ _ _ _ (Ne.symm h2), Below.heap_setCell _ _ _ _ (Ne.symm h2), Below.heap_setCell _ _ _ _ (Ne.symm h2), Below.heap_setCell _ _ _ _ (Ne.symm h2), Below.heap_setCell _ _ _ _ (Ne.symm h2), Below.heap_setCell _ _ _ _ (Ne.symm h2)]))
    have HBW := Lib.hid (((((((HBE0.out.drew.trans (hbc.mono (by show w.heap.size ≤ (w.alloc _).heap.size; omega))).setCell (p := ⟨w.heap.size, 0, none⟩) (Nat.le_refl _) (.int .u64 (getN X f 8 : Nat))).setCell (p := ⟨w.heap.size, 1, none⟩) (Nat.le_refl _) (.int .u64 (getN X (f + 8) 8 : Nat))).setCell (p := ⟨w.heap.size, 2, none⟩) (Nat.le_refl _) (.int .u64 (getN X (f + 16) 8 : Nat))).setCell (p := ⟨w.heap.size, 3, none⟩) (Nat.le_refl _) (.int .i64 ((getN X (f + 24) 4 : Nat) - 1))).setCell (p := ⟨w.heap.size, 4, none⟩) (Nat.le_refl _) (.int .i64 ((getN X (f + 28) 2 : Nat) - 1))).setCell (p := ⟨w.heap.size, 5, none⟩) (Nat.le_refl _) (.slice Av (z - 30) cv))
    obtain ⟨wf, hwf⟩ : ∃ wf, (((((wc.setCell ⟨w.heap.size, 0, none⟩ (.int .u64 (getN X f 8 : Nat))).setCell ⟨w.heap.size, 1, none⟩ (.int .u64 (getN X (f + 8) 8 : Nat))).setCell ⟨w.heap.size, 2, none⟩ (.int .u64 (getN X (f + 16) 8 : Nat))).setCell ⟨w.heap.size, 3, none⟩ (.int .i64 ((getN X (f + 24) 4 : Nat) - 1))).setCell ⟨w.heap.size, 4, none⟩ (.int .i64 ((getN X (f + 28) 2 : Nat) - 1))).setCell ⟨w.heap.size, 5, none⟩ (.slice Av (z - 30) cv) = wf := ⟨_, rfl⟩
    rw [hwf] at HF HOW HBW ⊢
    have r0 := HF.out.cell 0
    have r1 := HF.out.cell 1
    have r2 := HF.out.cell 2
    have r3 := HF.out.cell 3
    have r4 := HF.out.cell 4
    have r5 := HF.out.cell 5
    clear hwf q0 q1 q2 q3 q4 q5 p0 p1 p2 p3 p4 p5
    exact bodyPost_ret (v := .agg #[.int .u64 (getN X f 8 : Nat), .int .u64 (getN X (f + 8) 8 : Nat), .int .u64 (getN X (f + 16) 8 : Nat), .int .i64 ((getN X (f + 24) 4 : Nat) - 1), .int .i64 ((getN X (f + 28) 2 : Nat) - 1), .slice Av (z - 30) cv]) (by simp [results, Try.results73, go_sem, r0, r1, r2, r3, r4, r5]) rfl ⟨_, rfl, HOW.out, HBW.out⟩
end Go.Proofs.Ythghnhcopmmmpaa.Mem
/- Page.Get, Page.Stamp. -/
namespace Go.Proofs.Ythghnhcopmmmpaa.Mem
open Go.RowKit Go.Proofs.Ythghnhcopmmmpaa.Nums
set_option linter.unusedVariables false
set_option linter.unusedSimpArgs false
set_option maxRecDepth 100000
set_option maxHeartbeats 1000000
attribute [local go_sem] nil_nil some_nil
/-- the version whose bytes lie at f, its data's slice v -/
def tuV (X : List UInt8) (f : Nat) (v : Value) : Value := .agg #[.int .u64 (getN X f 8 : Nat), .int .u64 (getN X (f + 8) 8 : Nat), .int .u64 (getN X (f + 16) 8 : Nat), .int .i64 ((getN X (f + 24) 4 : Nat) - 1), .int .i64 ((getN X (f + 28) 2 : Nat) - 1), v]
/-- six cells of a block written over -/
def put6 (w : World) (b : Nat) (v0 v1 v2 v3 v4 v5 : Value) : World := (((((w.setCell ⟨b, 0, none⟩ v0).setCell ⟨b, 1, none⟩ v1).setCell ⟨b, 2, none⟩ v2).setCell ⟨b, 3, none⟩ v3).setCell ⟨b, 4, none⟩ v4).setCell ⟨b, 5, none⟩ v5
theorem Blk.put6 {w : World} {b : Nat} {t : TypeId} {a0 a1 a2 a3 a4 a5 : Value} (h : Blk w b t #[a0, a1, a2, a3, a4, a5]) (v0 v1 v2 v3 v4 v5 : Value) : Blk (put6 w b v0 v1 v2 v3 v4 v5) b t #[v0, v1, v2, v3, v4, v5] :=
  Blk.set_ (Blk.set_ (Blk.set_ (Blk.set_ (Blk.set_ (Blk.set_ h 0 v0) 1 v1) 2 v2) 3 v3) 4 v4) 5 v5
theorem Below.put6 {B b : Nat} {w w1 : World} (h : Below B w w1) (hb : B ≤ b) (v0 v1 v2 v3 v4 v5 : Value) : Below B w (put6 w1 b v0 v1 v2 v3 v4 v5) :=
  (((((h.setCell (p := ⟨b, 0, none⟩) hb v0).setCell (p := ⟨b, 1, none⟩) hb v1).setCell (p := ⟨b, 2, none⟩) hb v2).setCell (p := ⟨b, 3, none⟩) hb v3).setCell (p := ⟨b, 4, none⟩) hb v4).setCell (p := ⟨b, 5, none⟩) hb v5
theorem put6_other (w : World) (b : Nat) (v0 v1 v2 v3 v4 v5 : Value) (k : Nat) (hk : k ≠ b) : (put6 w b v0 v1 v2 v3 v4 v5).heap[k]? = w.heap[k]? := by
  unfold put6
  rw [Below.heap_setCell _ _ _ _ hk, Below.heap_setCell _ _ _ _ hk, Below.heap_setCell _ _ _ _ hk, Below.heap_setCell _ _ _ _ hk, Below.heap_setCell _ _ _ _ hk, Below.heap_setCell _ _ _ _ hk]
theorem get_ret {w : World} {b : Nat} {v0 v1 v2 v3 v4 v5 q : Value} {tmps : Array Value} (h : Blk w b 33 #[v0, v1, v2, v3, v4, v5]) (h4 : tmps.getD 4 undef = .pointer (some ⟨b, 0, none⟩)) (h5 : tmps.getD 5 undef = q) :
    (results Try.f26 tmps).run Try.prog w = .ok (.tuple #[.agg #[v0, v1, v2, v3, v4, v5], q]) w := by
  have r0 := h.cell 0
  have r1 := h.cell 1
  have r2 := h.cell 2
  have r3 := h.cell 3
  have r4 := h.cell 4
  have r5 := h.cell 5
  simp at r0 r1 r2 r3 r4 r5
  simp only [Array.getD_eq_getD_getElem?] at h4 h5
  simp [results, Try.results26, go_sem, h4, h5, r0, r1, r2, r3, r4, r5]
theorem get_some (P s f z : Nat) (X : List UInt8) (w : World) (hp : Pg w P X) (hF : Fine X) (h1 : s < slN X) (hf : frS X s = f) (hz : szS X s = z) (h0 : 30 ≤ z) :
    Calls Try.prog 26 #[.pointer (some ⟨P, 0, none⟩), .int .i64 s] w fun e w' => ∃ v, e = .returned (.tuple #[tuV X f v, .bool true]) ∧ OwnB w' w.heap.size v (z - 30) (u8s ((X.drop (f + 30)).take (z - 30))) ∧ Below w.heap.size w w' := by
  have HP1 : Hid (Pg (w.alloc (.cells #[.int .u64 0, .int .u64 0, .int .u64 0, .int .i64 0, .int .i64 0, .slice none 0 0] 33)) P X) := Lib.hid ⟨Blk.alloc hp.1 _, hp.2⟩
  have CA := Lib.hid (at_pg P s X _ HP1.out hF h1)
  rw [atV_some (by omega), hf, hz] at CA
  have hfit := hF.fit s h1
  rw [hf, hz] at hfit
  have HT0 : Hid (Blk (w.alloc (.cells #[.int .u64 0, .int .u64 0, .int .u64 0, .int .i64 0, .int .i64 0, .slice none 0 0] 33)) w.heap.size 33 #[.int .u64 0, .int .u64 0, .int .u64 0, .int .i64 0, .int .i64 0, .slice none 0 0]) := Lib.hid (Blk.new w _ _)
  have HBE0 : Hid (Below w.heap.size w (w.alloc (.cells #[.int .u64 0, .int .u64 0, .int .u64 0, .int .i64 0, .int .i64 0, .slice none 0 0] 33))) := Lib.hid (bel_alloc _ _)
  have hsx := size_alloc w (.cells #[.int .u64 0, .int .u64 0, .int .u64 0, .int .i64 0, .int .i64 0, .slice none 0 0] 33)
  have hXl := hp.2
  clear hp hF hf hz
  go_enter Try.func26, Try.ntmps26
  go_wp2_with fail
  refine CA.out.mono ?_
  rintro e w2 ⟨rfl, m, rfl⟩
  go_wp2_with fail
  refine (tuple_any P f z (512 - f) 113 X _ (HP1.out.drewN m).1 (by omega) h0 (by omega) (by omega) (by omega)).mono ?_
  rintro e w3 ⟨v, rfl, hown, hb3⟩
  obtain ⟨Av, cv, hv, hsv⟩ := Sl.of_own hown
  subst hv
  have hb3' : Below (w.heap.size + 1) ((w.alloc (.cells #[.int .u64 0, .int .u64 0, .int .u64 0, .int .i64 0, .int .i64 0, .slice none 0 0] 33)).drewN m) w3 := hb3.mono (Nat.le_of_eq hsx.symm)
  have HT1 := Lib.hid (Blk.below (w := (w.alloc (.cells #[.int .u64 0, .int .u64 0, .int .u64 0, .int .i64 0, .int .i64 0, .slice none 0 0] 33)).drewN m) HT0.out hb3' (by omega))
  have HOWN : Hid (w3.ownsRow (w.heap.size + 1) 5 1 (.slice Av (z - 30) cv) (z - 30) (u8s ((X.drop (f + 30)).take (z - 30)))) := Lib.hid (own_mono hown (Nat.le_of_eq hsx.symm))
  have hdn : Below w.heap.size w ((w.alloc (.cells #[.int .u64 0, .int .u64 0, .int .u64 0, .int .i64 0, .int .i64 0, .slice none 0 0] 33)).drewN m) := ⟨HBE0.out.os, HBE0.out.tape, HBE0.out.output, HBE0.out.size, HBE0.out.block⟩
  have HB3 := Lib.hid (hdn.trans (hb3'.mono (by omega)))
  have q0 := HT1.out.cell 0
  have q1 := HT1.out.cell 1
  have q2 := HT1.out.cell 2
  have q3 := HT1.out.cell 3
  have q4 := HT1.out.cell 4
  have q5 := HT1.out.cell 5
  have p0 := HT1.out.frozen 0
  have p1 := HT1.out.frozen 1
  have p2 := HT1.out.frozen 2
  have p3 := HT1.out.frozen 3
  have p4 := HT1.out.frozen 4
  have p5 := HT1.out.frozen 5
  clear hown hb3 hb3' hsv hdn CA HP1 HT0 HBE0
  go_wp2_with fail
  have HF := Lib.hid (Blk.put6 HT1.out (.int .u64 (getN X f 8 : Nat)) (.int .u64 (getN X (f + 8) 8 : Nat)) (.int .u64 (getN X (f + 16) 8 : Nat)) (.int .i64 ((getN X (f + 24) 4 : Nat) - 1)) (.int .i64 ((getN X (f + 28) 2 : Nat) - 1)) (.slice Av (z - 30) cv))
  exact bodyPost_ret (get_ret HF.out rfl rfl) rfl ⟨_, rfl, own_keep (own_mono HOWN.out (by omega)) (fun k hk => put6_other _ _ _ _ _ _ _ _ _ (by have := (HOWN.out.lt k hk).1; omega)), Below.put6 HB3.out (Nat.le_refl _) _ _ _ _ _ _⟩
theorem nx_nat {p s : Int} (h : nxOk p s = true) : ∃ P1 S1 : Nat, p + 1 = P1 ∧ s + 1 = S1 ∧ P1 ≤ 65536 ∧ S1 ≤ 65535 := by
  unfold nxOk at h
  rw [Bool.or_eq_true, Bool.and_eq_true, Bool.and_eq_true, Bool.and_eq_true, Bool.and_eq_true, beq_iff_eq, beq_iff_eq, decide_eq_true_eq, decide_eq_true_eq, decide_eq_true_eq, decide_eq_true_eq] at h
  exact ⟨(p + 1).toNat, (s + 1).toNat, by omega, by omega, by omega, by omega⟩
theorem stamp_form (A : Option Addr) (i : Int) (U : Nat) (p s : Int) (w : World) (b : Nat) (hA : A = some ⟨b, 0, none⟩) (hbad : ¬ (U ≤ 1099511627776 ∧ nxOk p s = true)) :
    Calls Try.prog 38 #[.pointer A, .int .i64 i, .int .u64 U, .agg #[.int .i64 p, .int .i64 s]] w fun e w' => e = .returned (.int .i64 3) ∧ Below w.heap.size w w' := by
  subst hA
  by_cases h1 : U ≤ 1099511627776
  · have hq : nxOk p s = false := by
      cases h : nxOk p s
      · rfl
      · exact absurd ⟨h1, h⟩ hbad
    have CX := Lib.hid (rightNext_any p s (w.alloc (.cells #[.int .i64 p, .int .i64 s] 30)))
    rw [hq] at CX
    clear hq hbad
    go_enter Try.func38, Try.ntmps38
    go_wp2_with fail
    refine (rightNumber_yes U _ h1).mono ?_
    rintro e w1 ⟨rfl, rfl⟩
    go_wp2_with fail
    refine CX.out.mono ?_
    rintro e w2 ⟨rfl, hb2⟩
    have HB2 := Lib.hid (bel_trans (bel_alloc _ _) hb2)
    clear hb2
    go_wp2_with fail
    go_ret
    exact ⟨rfl, HB2.out⟩
  · clear hbad
    go_enter Try.func38, Try.ntmps38
    go_wp2_with fail
    refine (rightNumber_no U _ h1).mono ?_
    rintro e w1 ⟨rfl, rfl⟩
    go_wp2_with fail
    go_ret
    exact ⟨rfl, bel_alloc _ _⟩
theorem stamp_ok (P s0 f z U P1 S1 : Nat) (p s : Int) (X : List UInt8) (w : World) (hp : Pg w P X) (hF : Fine X) (h1 : s0 < slN X) (hf : frS X s0 = f) (hz : szS X s0 = z) (h0 : 30 ≤ z) (hU : U ≤ 1099511627776) (hn : nxOk p s = true) (hp1 : p + 1 = P1) (hs1 : s + 1 = S1) (hP : P1 ≤ 65536) (hS : S1 ≤ 65535) :
    Calls Try.prog 38 #[.pointer (some ⟨P, 0, none⟩), .int .i64 s0, .int .u64 U, .agg #[.int .i64 p, .int .i64 s]] w fun e w' => e = .returned (.int .i64 0) ∧ Pg w' P (stampL X f U P1 S1) ∧ Only P w w' := by
  have hfit := hF.fit s0 h1
  rw [hf, hz] at hfit
  have hXl := hp.2
  have HP := Lib.hid hp
  have HF := Lib.hid hF
  have CX := Lib.hid (rightNext_any p s (w.alloc (.cells #[.int .i64 p, .int .i64 s] 30)))
  rw [hn] at CX
  have hb4 := at_new w #[.int .i64 p, .int .i64 s] 30
  have HC0 : Hid ((w.alloc (.cells #[.int .i64 p, .int .i64 s] 30)).cell? ⟨w.heap.size, 0, none⟩ = some (.int .i64 p)) := Lib.hid (by have h := hb4.2 0 (.int .i64 p) rfl; rwa [add_flat] at h)
  have HC1 : Hid ((w.alloc (.cells #[.int .i64 p, .int .i64 s] 30)).cell? ⟨w.heap.size, 1, none⟩ = some (.int .i64 s)) := Lib.hid (by have h := hb4.2 1 (.int .i64 s) rfl; rwa [add_flat] at h)
  have hsx := size_alloc w (.cells #[.int .i64 p, .int .i64 s] 30)
  have HH := Lib.hid (And.intro h1 (And.intro hf hz))
  clear hp hF hn hb4 h1 hf hz
  go_enter Try.func38, Try.ntmps38
  go_wp2_with fail
  refine (rightNumber_yes U _ hU).mono ?_
  rintro e w1 ⟨rfl, rfl⟩
  go_wp2_with fail
  refine CX.out.mono ?_
  rintro e w2 ⟨rfl, hb2⟩
  have HB2 := Lib.hid (bel_trans (bel_alloc w (.cells #[.int .i64 p, .int .i64 s] 30)) hb2)
  have HP2 : Hid (Pg w2 P X) := Lib.hid ⟨Blk.below HP.out.1 HB2.out (Blk.lt HP.out.1), HP.out.2⟩
  have c0 := (hb2.cell (p := ⟨w.heap.size, 0, none⟩) (by show w.heap.size < _; omega)).trans HC0.out
  have c1 := (hb2.cell (p := ⟨w.heap.size, 1, none⟩) (by show w.heap.size < _; omega)).trans HC1.out
  have CA := Lib.hid (at_pg P s0 X w2 HP2.out HF.out HH.out.1)
  rw [atV_some (by have := HH.out.2.2; omega), HH.out.2.1, HH.out.2.2] at CA
  clear hb2
  go_wp2_with fail
  refine CA.out.mono ?_
  rintro e w3 ⟨rfl, m, rfl⟩
  have c0' : (w2.drewN m).cell? ⟨w.heap.size, 0, none⟩ = some (.int .i64 p) := c0
  have c1' : (w2.drewN m).cell? ⟨w.heap.size, 1, none⟩ = some (.int .i64 s) := c1
  go_wp2_with fail
  refine (stamp_any P 113 X f z (512 - f) U P1 S1 p s _ (HP2.out.drewN m).1 (by omega) h0 (by omega) (by unfold maxLen; omega) (by omega) hp1 hs1 hP hS).mono ?_
  rintro e w4 ⟨rfl, hb4, ho4⟩
  have HP4 : Hid (Pg w4 P (stampL X f U P1 S1)) := Lib.hid ⟨hb4, by rw [stampL_len (by omega)]; exact hXl⟩
  have h24 : Only P w2 (w2.drewN m) := ⟨rfl, rfl, rfl, Nat.le_refl _, fun _ _ _ => rfl⟩
  have HO4 := Lib.hid (((Only.of_below HB2.out).trans h24).trans ho4)
  clear hb4 ho4 h24
  go_wp2_with fail
  go_ret
  exact ⟨rfl, HP4.out, HO4.out⟩
end Go.Proofs.Ythghnhcopmmmpaa.Mem
/- Page.Insert where no version is moved. -/
namespace Go.Proofs.Ythghnhcopmmmpaa.Mem
open Go.RowKit Go.Proofs.Ythghnhcopmmmpaa.Nums
set_option linter.unusedVariables false
set_option linter.unusedSimpArgs false
set_option maxRecDepth 100000
set_option maxHeartbeats 1000000
theorem IsNext.eq {X : List UInt8} {a b : Nat} (h : IsNext X a) (k : IsNext X b) : a = b := by
  rcases Nat.lt_trichotomy a b with hl | he | hl
  · exact absurd (h.free (Nat.lt_of_lt_of_le hl k.le)) (k.full a hl)
  · exact he
  · exact absurd (k.free (Nat.lt_of_lt_of_le hl h.le)) (h.full b hl)
theorem next_q (P q : Nat) (X : List UInt8) (w : World) (hp : Pg w P X) (hF : Fine X) (hq : IsNext X q) :
    Calls Try.prog 70 #[.pointer (some ⟨P, 0, none⟩)] w fun e w' => e = .returned (.int .i64 q) ∧ ∃ m, w' = w.drewN m :=
  (next_pg P X w hp hF).mono fun e w' ⟨q', he, hq', hm⟩ => by
    obtain rfl := hq.eq hq'
    exact ⟨he, hm⟩
def roomN (X : List UInt8) (q : Nat) : Int := max (478 - 4 * (max (slN X) (q + 1) : Nat) - (suN X (slN X) : Nat)) (-1)
theorem room_q (P q : Nat) (X : List UInt8) (w : World) (hp : Pg w P X) (hF : Fine X) (hq : IsNext X q) :
    Calls Try.prog 21 #[.pointer (some ⟨P, 0, none⟩)] w fun e w' => e = .returned (.int .i64 (roomN X q)) ∧ ∃ m, w' = w.drewN m :=
  (room_pg P X w hp hF).mono fun e w' ⟨q', hq', he, hm⟩ => by
    obtain rfl := hq.eq hq'
    exact ⟨he, hm⟩
theorem quiet_m {P : Program} {f : FuncId} {args : Array Value} {w : World} {n : Nat} {v : Value} (h : Calls P f args (w.drewN n) fun e w' => e = .returned v ∧ ∃ m, w' = (w.drewN n).drewN m) : Calls P f args (w.drewN n) fun e w'' => e = .returned v ∧ ∃ m, w'' = w.drewN m :=
  h.mono fun _ _ ⟨h1, m, h2⟩ => ⟨h1, n + m, h2.trans (World.drewN_drewN _ _ _)⟩
theorem Pg.drew {w : World} {P : Nat} {X : List UInt8} (h : Pg w P X) : Pg w.drew P X := h
theorem sl_drewN {w : World} {A : Option Addr} {n c : Nat} {xs : List Value} (h : Sl w w.heap.size 1 A n c xs) (k : Nat) : Sl (w.drewN k) (w.drewN k).heap.size 1 A n c xs := h.below (w' := w.drewN k) ⟨rfl, rfl, rfl, Nat.le_refl _, fun _ _ => rfl⟩
theorem sl_drewD {w : World} {A : Option Addr} {n c : Nat} {xs : List Value} (h : Sl w w.heap.size 1 A n c xs) (k : Nat) : Sl (w.drew.drewN k) (w.drew.drewN k).heap.size 1 A n c xs := h.below (w' := w.drew.drewN k) ⟨rfl, rfl, rfl, Nat.le_refl _, fun _ _ => rfl⟩
theorem insert_ok (P q r a b P1 S1 n c at_ : Nat) (p s : Int) (A : Option Addr) (d X : List UInt8) (w : World) (hp : Pg w P X) (hF : Fine X) (hq : IsNext X q) (hd : d.length = n) (hs : Sl w w.heap.size 1 A n c (u8s d)) (hok : tuOk r a b p s n = true) (hr : r < 18446744073709551616) (ha : a < 18446744073709551616) (hb : b < 18446744073709551616) (hp1 : p + 1 = P1) (hs1 : s + 1 = S1) (hP : P1 ≤ 65536) (hS : S1 ≤ 65535) (hn : n ≤ 200) (hroom : (n : Int) ≤ roomN X q) (hbg : bgN X = at_ + (30 + n)) (hfit : 4 + 4 * max (slN X) (q + 1) ≤ at_) (h512 : at_ + (30 + n) ≤ 512) :
    Calls Try.prog 34 #[.pointer (some ⟨P, 0, none⟩), .agg #[.int .u64 r, .int .u64 a, .int .u64 b, .int .i64 p, .int .i64 s, .slice A n c]] w fun e w' => e = .returned (.tuple #[.int .i64 q, .int .i64 0]) ∧ Pg w' P (placeL (lay X 0 (nb (max (slN X) (q + 1)) 2)) q at_ (verL r a b P1 S1 d)) ∧ Only P w w' := by
  have HP := Lib.hid hp
  have HF := Lib.hid hF
  have HQ := Lib.hid hq
  have HS := Lib.hid hs
  have HD := Lib.hid hd
  obtain ⟨bx, hbxx⟩ : ∃ bx, w.heap.size = bx := ⟨_, rfl⟩
  obtain ⟨wx, hwx⟩ : ∃ wx, w.alloc (.cells #[.int .u64 r, .int .u64 a, .int .u64 b, .int .i64 p, .int .i64 s, .slice A n c] 33) = wx := ⟨_, rfl⟩
  have HWX := Lib.hid hwx
  have hb4 := at_new w #[.int .u64 r, .int .u64 a, .int .u64 b, .int .i64 p, .int .i64 s, .slice A n c] 33
  rw [hwx] at hb4
  have g0 := hb4.2 0 (.int .u64 r) rfl
  have g1 := hb4.2 1 (.int .u64 a) rfl
  have g2 := hb4.2 2 (.int .u64 b) rfl
  have g3 := hb4.2 3 (.int .i64 p) rfl
  have g4 := hb4.2 4 (.int .i64 s) rfl
  have g5 := hb4.2 5 (.slice A n c) rfl
  rw [add_flat, hbxx] at g0 g1 g2 g3 g4 g5
  have hsz : wx.heap.size = bx + 1 := by rw [← hwx, size_alloc, hbxx]
  have HBX : Hid (Below w.heap.size w wx) := Lib.hid (by rw [← hwx]; exact bel_alloc _ _)
  have HG := Lib.hid (And.intro g0 (And.intro g1 (And.intro g2 (And.intro g3 (And.intro g4 g5)))))
  have CR := Lib.hid (right_any r a b p s A n c wx)
  rw [hok] at CR
  have hlen := hs.cap
  clear hb4 g0 g1 g2 g3 g4 g5 hp hF hq hs hd hok hwx
  go_enter Try.func34, Try.ntmps34
  go_wp2_with fail
  rw [HWX.out]
  refine CR.out.mono ?_
  rintro e w2 ⟨rfl, hb2⟩
  have HB2 := Lib.hid (HBX.out.trans (hb2.mono (by omega)))
  have HP2 : Hid (Pg w2 P X) := Lib.hid ⟨Blk.below HP.out.1 HB2.out (Blk.lt HP.out.1), HP.out.2⟩
  have HS2 := Lib.hid (HS.out.below HB2.out)
  have hsz2 : bx + 1 ≤ w2.heap.size := by rw [← hsz]; exact hb2.size
  obtain ⟨x0, x1, x2, x3, x4, x5⟩ := HG.out
  have c0 := (hb2.cell (p := ⟨bx, 0, none⟩) (by show bx < wx.heap.size; omega)).trans x0
  have c1 := (hb2.cell (p := ⟨bx, 1, none⟩) (by show bx < wx.heap.size; omega)).trans x1
  have c2 := (hb2.cell (p := ⟨bx, 2, none⟩) (by show bx < wx.heap.size; omega)).trans x2
  have c3 := (hb2.cell (p := ⟨bx, 3, none⟩) (by show bx < wx.heap.size; omega)).trans x3
  have c4 := (hb2.cell (p := ⟨bx, 4, none⟩) (by show bx < wx.heap.size; omega)).trans x4
  have c5 := (hb2.cell (p := ⟨bx, 5, none⟩) (by show bx < wx.heap.size; omega)).trans x5
  have HCC := Lib.hid (And.intro c0 (And.intro c1 (And.intro c2 (And.intro c3 (And.intro c4 c5)))))
  have hroom' : ¬ roomN X q < (n : Int) := by omega
  clear hb2 x0 x1 x2 x3 x4 x5 hroom c0 c1 c2 c3 c4 hsz
  go_wp2_with fail
  go_quiet ((go_at_call 21; exact quiet_m (room_q P q X _ (HP2.out.drewN _) HF.out HQ.out)))
  go_wp2_with fail
  obtain ⟨wd, hwd⟩ : ∃ wd, w2.drewN nq = wd := ⟨_, rfl⟩
  have HPD : Hid (Pg wd P X) := Lib.hid (by rw [← hwd]; exact HP2.out.drewN _)
  have HCD : Hid (wd.cell? ⟨bx, 0, none⟩ = some (.int .u64 r) ∧ wd.cell? ⟨bx, 1, none⟩ = some (.int .u64 a) ∧ wd.cell? ⟨bx, 2, none⟩ = some (.int .u64 b) ∧ wd.cell? ⟨bx, 3, none⟩ = some (.int .i64 p) ∧ wd.cell? ⟨bx, 4, none⟩ = some (.int .i64 s) ∧ wd.cell? ⟨bx, 5, none⟩ = some (.slice A n c)) := Lib.hid (by rw [← hwd]; exact HCC.out)
  have hszd : bx + 1 ≤ wd.heap.size := by rw [← hwd]; exact hsz2
  have HOD : Hid (Only P w wd) := Lib.hid (by rw [← hwd]; exact (Only.of_below HB2.out).trans ⟨rfl, rfl, rfl, Nat.le_refl _, fun _ _ _ => rfl⟩)
  have HSD : Hid (Sl wd wd.heap.size 1 A n c (u8s d)) := Lib.hid (by rw [← hwd]; exact (HS2.out.below (w' := w2.drewN nq) ⟨rfl, rfl, rfl, Nat.le_refl _, fun _ _ => rfl⟩).more HB2.out.size)
  rw [hwd]
  obtain ⟨d0, d1, d2, d3, d4, d5⟩ := HCD.out
  clear hwd c5
  go_region_held3 (fun w' => w'.cell? ⟨bx, 0, none⟩ = some (.int .u64 r) ∧ w'.cell? ⟨bx, 1, none⟩ = some (.int .u64 a) ∧ w'.cell? ⟨bx, 2, none⟩ = some (.int .u64 b) ∧ w'.cell? ⟨bx, 3, none⟩ = some (.int .i64 p) ∧ w'.cell? ⟨bx, 4, none⟩ = some (.int .i64 s) ∧ w'.cell? ⟨bx, 5, none⟩ = some (.slice A n c))
    (first | go_keep | exact HCD.out | exact ⟨(hbv.cell (p := ⟨bx, 0, none⟩) (by show bx < wd.heap.size; omega)).trans HCD.out.1, (hbv.cell (p := ⟨bx, 1, none⟩) (by show bx < wd.heap.size; omega)).trans HCD.out.2.1, (hbv.cell (p := ⟨bx, 2, none⟩) (by show bx < wd.heap.size; omega)).trans HCD.out.2.2.1, (hbv.cell (p := ⟨bx, 3, none⟩) (by show bx < wd.heap.size; omega)).trans HCD.out.2.2.2.1, (hbv.cell (p := ⟨bx, 4, none⟩) (by show bx < wd.heap.size; omega)).trans HCD.out.2.2.2.2.1, (hbv.cell (p := ⟨bx, 5, none⟩) (by show bx < wd.heap.size; omega)).trans HCD.out.2.2.2.2.2⟩)
    (first
      | (go_at_call 70; refine (next_q P q X _ (Pg.drew HPD.out) HF.out HQ.out).mono ?_; rintro e w3 ⟨rfl, m3, rfl⟩)
      | (go_at_call 78; refine (version_any r a b P1 S1 n c p s A d _ HD.out (by omega) (by first | exact sl_drewN HSD.out _ | exact sl_drewD HSD.out _) hr ha hb hp1 hs1 hP hS).mono ?_; rintro e w4 ⟨rfl, hvv, hbv⟩))
  have HV : Hid (BB w4 (wd.heap.size + 1) 5 (verL r a b P1 S1 d)) := Lib.hid hvv
  have HBV : Hid (Below wd.heap.size wd w4) := Lib.hid ⟨hbv.os, hbv.tape, hbv.output, hbv.size, hbv.block⟩
  have HP4 : Hid (Pg w4 P X) := Lib.hid ⟨Blk.below HPD.out.1 HBV.out (Blk.lt HPD.out.1), HPD.out.2⟩
  have HO4 := Lib.hid (HOD.out.trans (Only.of_below HBV.out))
  have hPV : P ≠ wd.heap.size + 1 := by have := Blk.lt HPD.out.1; omega
  obtain ⟨V, hV⟩ : ∃ V, wd.heap.size + 1 = V := ⟨_, rfl⟩
  rw [hV] at HV hPV ⊢
  clear hvv hbv hV d0 d1 d2 d3 d4 d5
  have CB := Lib.hid (begin_pg P X w4 HP4.out)
  have e : get2 X 2 = at_ + (30 + n) := hbg
  rw [e] at CB
  push_cast at CB
  clear e
  have hql := HQ.out.le
  have htop := HF.out.top
  have CE := Lib.hid (slotsEnd_pg P q X w4 HP4.out HF.out (by omega))
  obtain ⟨M, hM⟩ : ∃ M, max (slN X) (q + 1) = M := ⟨_, rfl⟩
  have HM := Lib.hid hM
  rw [hM] at CE hfit
  push_cast at CE
  have hMb : M ≤ 128 := by omega
  have m1 : (at_ : Int) ≤ 512 := by omega
  have m2 : ¬ (at_ : Int) < 4 + 4 * (M : Int) := by omega
  have m3 : (n : Int) ≤ 200 := by omega
  clear hM
  go_wp2_with fail
  refine CB.out.mono ?_
  rintro e w5 ⟨rfl, rfl⟩
  go_wp2_with fail
  refine CE.out.mono ?_
  rintro e w5 ⟨rfl, rfl⟩
  have CS := Lib.hid (slots_pg P X w4 HP4.out)
  have e : get2 X 0 = slN X := rfl
  rw [e] at CS
  clear e
  obtain ⟨G, hG⟩ : ∃ G, slN X = G := ⟨_, rfl⟩
  have HGG := Lib.hid hG
  rw [hG] at CS hql htop
  have CW := Lib.hid (setSlots_pg P M X w4 HP4.out (by omega))
  have HMG : Hid (max G (q + 1) = M) := Lib.hid (by rw [← HGG.out]; exact HM.out)
  clear hG
  have fin : ∀ w6 w7, Pg w6 P (lay X 0 (nb M 2)) → Only P w4 w6 → Pg w7 P (placeL (lay X 0 (nb M 2)) q at_ (verL r a b P1 S1 d)) → Only P w6 w7 → Pg w7 P (placeL (lay X 0 (nb (max (slN X) (q + 1)) 2)) q at_ (verL r a b P1 S1 d)) ∧ Only P w w7 := by
    intro w6 w7 h6 ho6 h7 ho7
    rw [HM.out]
    exact ⟨h7, (HO4.out.trans ho6).trans ho7⟩
  have HFIN := Lib.hid fin
  have plc : ∀ w6, Pg w6 P (lay X 0 (nb M 2)) → Only P w4 w6 → Calls Try.prog 82 #[.pointer (some ⟨P, 0, none⟩), .int .i64 q, .slice (some ⟨V, 0, none⟩) (30 + n : Nat) (30 + n : Nat)] w6 fun e w' => e = .returned (.tuple #[]) ∧ Pg w' P (placeL (lay X 0 (nb M 2)) q at_ (verL r a b P1 S1 d)) ∧ Only P w6 w' := by
    intro w6 h6 ho6
    have hb6 : BB w6 V 5 (verL r a b P1 S1 d) := ho6.blk HV.out (Ne.symm hPV)
    refine place_pg P q at_ (30 + n) (30 + n) _ _ ⟨V, 0, none⟩ w6 h6 ?_ (by omega) (by rw [verL_len, HD.out]) (by omega) (by have := HMG.out; omega) ?_
    · show get2 (lay X 0 (nb M 2)) 2 = _
      rw [get2_other (by rw [nb_len, HP.out.2]; omega) (by rw [nb_len]; omega)]
      exact hbg
    · intro j v hv
      rw [add_flat, Blk.cell hb6, List.getElem?_toArray]
      exact hv
  have HPLC := Lib.hid plc
  clear fin plc
  have hq8 : (q : Int) ≤ 127 := by omega
  rcases Nat.lt_or_ge q G with h | h
  · obtain rfl : M = G := by have := HMG.out; omega
    have h1 : (q : Int) + 1 ≤ M := by omega
    have h2 : max (M : Int) ((q : Int) + 1) = M := by omega
    clear h
    go_wp2_with fail
    refine CS.out.mono ?_
    rintro e w5 ⟨rfl, rfl⟩
    go_wp2_with fail
    refine CW.out.mono ?_
    rintro e w6 ⟨rfl, h6, ho6⟩
    go_wp2_with fail
    refine (HPLC.out w6 h6 ho6).mono ?_
    rintro e w7 ⟨rfl, h7, ho7⟩
    go_wp2_with fail
    go_ret2
    exact ⟨rfl, HFIN.out w6 w7 h6 ho6 h7 ho7⟩
  · obtain rfl : M = q + 1 := by have := HMG.out; omega
    have h1 : (G : Int) < (q : Int) + 1 := by omega
    have h2 : max (G : Int) ((q : Int) + 1) = (q : Int) + 1 := by omega
    clear h
    push_cast at CW
    go_wp2_with fail
    refine CS.out.mono ?_
    rintro e w5 ⟨rfl, rfl⟩
    go_wp2_with fail
    refine CW.out.mono ?_
    rintro e w6 ⟨rfl, h6, ho6⟩
    go_wp2_with fail
    refine (HPLC.out w6 h6 ho6).mono ?_
    rintro e w7 ⟨rfl, h7, ho7⟩
    go_wp2_with fail
    go_ret2
    exact ⟨rfl, HFIN.out w6 w7 h6 ho6 h7 ho7⟩
end Go.Proofs.Ythghnhcopmmmpaa.Mem
/- Page.Insert, Page.Stamp, Page.Get, Page.Free where nothing is put, stamped, told, freed. -/
namespace Go.Proofs.Ythghnhcopmmmpaa.Mem
open Go.RowKit Go.Proofs.Ythghnhcopmmmpaa.Nums
set_option linter.unusedVariables false
set_option linter.unusedSimpArgs false
set_option maxRecDepth 100000
set_option maxHeartbeats 1000000
attribute [local go_sem] nil_nil some_nil
theorem insert_nil (r a b n c : Nat) (p s : Int) (A : Option Addr) (w : World) :
    Calls Try.prog 34 #[.pointer none, .agg #[.int .u64 r, .int .u64 a, .int .u64 b, .int .i64 p, .int .i64 s, .slice A n c]] w fun e w' => e = .returned (.tuple #[.int .i64 0, .int .i64 15]) ∧ Below w.heap.size w w' := by
  go_enter Try.func34, Try.ntmps34
  go_wp2_with fail
  go_ret2
  exact ⟨rfl, bel_alloc _ _⟩
theorem insert_form (P r a b n c : Nat) (p s : Int) (A : Option Addr) (w : World) (h : tuOk r a b p s n = false) :
    Calls Try.prog 34 #[.pointer (some ⟨P, 0, none⟩), .agg #[.int .u64 r, .int .u64 a, .int .u64 b, .int .i64 p, .int .i64 s, .slice A n c]] w fun e w' => e = .returned (.tuple #[.int .i64 0, .int .i64 3]) ∧ Below w.heap.size w w' := by
  have CR := Lib.hid (right_any r a b p s A n c (w.alloc (.cells #[.int .u64 r, .int .u64 a, .int .u64 b, .int .i64 p, .int .i64 s, .slice A n c] 33)))
  rw [h] at CR
  go_enter Try.func34, Try.ntmps34
  go_wp2_with fail
  refine CR.out.mono ?_
  rintro e w2 ⟨rfl, hb2⟩
  have HB2 := Lib.hid (bel_trans (bel_alloc _ _) hb2)
  clear hb2
  go_wp2_with fail
  go_ret2
  exact ⟨rfl, HB2.out⟩
theorem stamp_nil (i : Int) (U : Nat) (p s : Int) (w : World) : Calls Try.prog 38 #[.pointer none, .int .i64 i, .int .u64 U, .agg #[.int .i64 p, .int .i64 s]] w fun e w' => e = .returned (.int .i64 15) ∧ Below w.heap.size w w' := by
  go_enter Try.func38, Try.ntmps38
  go_wp2_with fail
  go_ret
  exact ⟨rfl, bel_alloc _ _⟩
/-- may no version lie there? -/
def farB (p s : Int) : Bool := if p = -1 ∧ s = -1 then false else decide (p < 0) || decide (65535 < p) || decide (s < 0) || decide (65534 < s)
theorem far_not (p s : Int) : farB p s = !nxOk p s := by
  unfold farB nxOk
  by_cases h1 : p = -1 ∧ s = -1
  · rw [if_pos h1, h1.1, h1.2]; rfl
  · rw [if_neg h1]
    have h2 : (p == -1 && s == -1) = false := by
      rw [Bool.eq_false_iff]
      intro h
      rw [Bool.and_eq_true, beq_iff_eq, beq_iff_eq] at h
      exact h1 h
    rw [h2, Bool.false_or, Bool.eq_iff_iff]
    simp only [Bool.or_eq_true, Bool.not_eq_true', Bool.and_eq_false_iff, decide_eq_true_eq, decide_eq_false_iff_not]
    omega
end Go.Proofs.Ythghnhcopmmmpaa.Mem
/- Page.Free. -/
namespace Go.Proofs.Ythghnhcopmmmpaa.Mem
open Go.RowKit Go.Proofs.Ythghnhcopmmmpaa.Nums
set_option linter.unusedVariables false
set_option linter.unusedSimpArgs false
set_option maxRecDepth 100000
set_option maxHeartbeats 1000000
attribute [local go_sem] nil_nil some_nil
theorem zero5 (w : World) : (zeroValue 5).run Try.prog w = .ok (.int .u8 0) w := by
  obtain ⟨i, hi, hz0, hz1, hz2⟩ := info_part info5
  simp [zeroValue, typeInfo, hi, hz0]
theorem run_clear_bb (g : Nat) (t : TypeId) (X : List UInt8) (a n c : Nat) (w : World) (hb : BB w g t X) (hn : 0 < n) (hX : a + n ≤ X.length) :
    ∃ w1, (∀ ty, (Builtin.clear_ #[31] ty #[.slice (some ⟨g, a, none⟩) n c]).run Try.prog w = .ok (.tuple #[]) w1) ∧ BB w1 g t (lay X a (List.replicate n 0)) ∧ Only g w w1 := by
  refine ⟨w.setRow g (u8s (lay X a (List.replicate n 0))).toArray, fun ty => ?_, setRow_heap w g _ _ t _ hb, ⟨rfl, rfl, rfl, by simp [World.setRow], fun k _ hk => setRow_other w g k _ hk⟩⟩
  have hst := run_storeCells_at Try.prog g a t (u8s (List.replicate n 0)) 0 (u8s X).toArray w hb (by rw [List.size_toArray, u8s_len, u8s_len, List.length_replicate]; omega) (u8s_one _)
  have hzc : (Builtin.zeroCells (Value.int .u8 0).cells n).toList = u8s (List.replicate n 0) := by
    show (Builtin.zeroCells #[Value.int .u8 0] n).toList = _
    unfold u8s
    rw [List.map_replicate]
    simp [Builtin.zeroCells]
    apply List.ext_getElem
    · simp
    · intro i h1 h2
      simp [Nat.mod_one]
  rw [lay_splice]
  unfold splice
  simp only [Nat.add_zero, List.toList_toArray, List.append_assoc] at hst
  obtain ⟨m, rfl⟩ : ∃ m, n = m + 1 := ⟨n - 1, by omega⟩
  simp [Builtin.clear_, run_underlying Try.underlying31, zero5, hzc, hst]
theorem get2_zero {Y : List UInt8} {c : Nat} (h0 : Y[c]? = some 0) (h1 : Y[c + 1]? = some 0) : get2 Y c = 0 := by
  unfold get2
  obtain ⟨l0, e0⟩ := List.getElem?_eq_some_iff.1 h0
  obtain ⟨l1, e1⟩ := List.getElem?_eq_some_iff.1 h1
  rw [List.drop_eq_getElem_cons l0, List.drop_eq_getElem_cons l1, e0, e1]
  rfl
/-- the page with a slot's bytes and its version's made 0 -/
def freeL (X : List UInt8) (s f z : Nat) : List UInt8 := lay (lay X f (List.replicate z 0)) (4 + 4 * s) (List.replicate 4 0)
section
variable {X : List UInt8} {s f z : Nat}
theorem freeL_len (hX : X.length = 512) (h1 : f + z ≤ 512) (h2 : 8 + 4 * s ≤ 512) : (freeL X s f z).length = 512 := by
  unfold freeL
  have e1 := lay_len (X := X) (b := List.replicate z 0) (a := f) (by rw [List.length_replicate]; omega)
  rw [lay_len (by rw [List.length_replicate, e1]; omega), e1, hX]
theorem freeL_other (hX : X.length = 512) (h1 : f + z ≤ 512) (h2 : 8 + 4 * s ≤ 512) {c : Nat} (hc : c + 2 ≤ f) (hs : c + 2 ≤ 4 + 4 * s ∨ 8 + 4 * s ≤ c) : get2 (freeL X s f z) c = get2 X c := by
  unfold freeL
  have e1 := lay_len (X := X) (b := List.replicate z 0) (a := f) (by rw [List.length_replicate]; omega)
  rw [get2_other (by rw [List.length_replicate, e1]; omega) (by rw [List.length_replicate]; omega), get2_other (by rw [List.length_replicate]; omega) (by omega)]
theorem freeL_zero (hX : X.length = 512) (h1 : f + z ≤ 512) (h2 : 8 + 4 * s ≤ 512) {i : Nat} (hi : i ≤ 2) : get2 (freeL X s f z) (4 + 4 * s + i) = 0 := by
  unfold freeL
  have e1 := lay_len (X := X) (b := List.replicate z 0) (a := f) (by rw [List.length_replicate]; omega)
  have hl : 4 + 4 * s + (List.replicate 4 (0 : UInt8)).length ≤ (lay X f (List.replicate z 0)).length := by rw [List.length_replicate, e1]; omega
  refine get2_zero ?_ ?_
  · rw [lay_get hl (by rw [List.length_replicate]; omega), List.getElem?_replicate, if_pos (by omega)]
  · rw [Nat.add_assoc, lay_get hl (by rw [List.length_replicate]; omega), List.getElem?_replicate, if_pos (by omega)]
theorem freeL_slN (hX : X.length = 512) (h1 : f + z ≤ 512) (h2 : 8 + 4 * s ≤ 512) (hf : 2 ≤ f) : slN (freeL X s f z) = slN X := freeL_other hX h1 h2 (by omega) (by omega)
theorem freeL_fine (hX : X.length = 512) (hF : Fine X) (hs : s < slN X) (h1 : f + z ≤ 512) (hlow : 4 + 4 * slN X ≤ f) : Fine (freeL X s f z) := by
  have htop := hF.top
  have h2 : 8 + 4 * s ≤ 512 := by omega
  have hsl := freeL_slN hX h1 h2 (by omega)
  refine ⟨by rw [hsl]; exact htop, fun j hj => ?_⟩
  rw [hsl] at hj
  by_cases he : j = s
  · subst he
    have a1 : frS (freeL X j f z) j = 0 := freeL_zero hX h1 h2 (i := 0) (by omega)
    have a2 : szS (freeL X j f z) j = 0 := by
      unfold szS
      rw [show 6 + 4 * j = 4 + 4 * j + 2 by omega]
      exact freeL_zero hX h1 h2 (by omega)
    omega
  · have a1 : frS (freeL X s f z) j = frS X j := freeL_other hX h1 h2 (by omega) (by omega)
    have a2 : szS (freeL X s f z) j = szS X j := freeL_other hX h1 h2 (by omega) (by omega)
    rw [a1, a2]
    exact hF.fit j hj
end
theorem free_pg (P s f z : Nat) (X : List UInt8) (w : World) (hp : Pg w P X) (hF : Fine X) (h1 : s < slN X) (hf : frS X s = f) (hz : szS X s = z) (h0 : z ≠ 0) (hlow : 4 + 4 * slN X ≤ f) :
    Calls Try.prog 35 #[.pointer (some ⟨P, 0, none⟩), .int .i64 s] w fun e w' => e = .returned (.int .i64 0) ∧ ∃ k, k ≤ slN X ∧ (∀ j, k ≤ j → j < slN X → szS (freeL X s f z) j = 0) ∧ (0 < k → szS (freeL X s f z) (k - 1) ≠ 0) ∧ Pg w' P (lay (freeL X s f z) 0 (nb k 2)) ∧ Only P w w' := by
  have htop := hF.top
  have hfit := hF.fit s h1
  rw [hf, hz] at hfit
  have CA := Lib.hid (at_pg P s X w hp hF h1)
  rw [atV_some (by rw [hz]; exact h0), hf, hz] at CA
  have h28 : 8 + 4 * s ≤ 512 := by omega
  have HFY := Lib.hid (freeL_fine hp.2 hF h1 hfit hlow)
  have HSL := Lib.hid (freeL_slN hp.2 hfit h28 (by omega))
  have HLY := Lib.hid (freeL_len hp.2 hfit h28)
  have HP := Lib.hid hp
  have e1 := lay_len (X := X) (b := List.replicate z 0) (a := f) (by rw [List.length_replicate, hp.2]; omega)
  have HL1 := Lib.hid (e1.trans hp.2)
  obtain ⟨G, hG⟩ : ∃ G, slN X = G := ⟨_, rfl⟩
  rw [hG] at HSL h1 htop hlow ⊢
  clear hp hF hf hz e1 hG
  go_enter Try.func35, Try.ntmps35
  go_wp2_with fail
  refine CA.out.mono ?_
  rintro e w2 ⟨rfl, m, rfl⟩
  obtain ⟨wa, hca, hba, hoa⟩ := run_clear_bb P 113 X f z (512 - f) (w.drewN m) (HP.out.drewN m).1 (by omega) (by rw [HP.out.2]; exact hfit)
  have HA := Lib.hid hba
  have HOA : Hid (Only P w wa) := Lib.hid ((show Only P w (w.drewN m) from ⟨rfl, rfl, rfl, Nat.le_refl _, fun _ _ _ => rfl⟩).trans hoa)
  clear hba hoa
  go_wp2_with fail
  clear hca
  refine (slot_pg P s _ (by omega)).mono ?_
  rintro e w3 ⟨rfl, rfl⟩
  obtain ⟨wb, hcb, hbb, hob⟩ := run_clear_bb P 113 _ (4 + 4 * s) 4 (512 - (4 + 4 * s)) wa HA.out (by omega) (by rw [HL1.out]; omega)
  have HB : Hid (Pg wb P (freeL X s f z)) := Lib.hid ⟨hbb, HLY.out⟩
  have HOB := Lib.hid (HOA.out.trans hob)
  clear hbb hob
  go_wp2_with fail
  clear hcb
  have CS := Lib.hid (slots_pg P _ wb HB.out)
  have e : get2 (freeL X s f z) 0 = slN (freeL X s f z) := rfl
  rw [e, HSL.out] at CS
  clear e
  refine CS.out.mono ?_
  rintro e w4 ⟨rfl, rfl⟩
  go_wp2_with fail
  go_loopw [6] (fun i wr => ∃ k m : Nat, k ≤ G ∧ i = .int .i64 k ∧ (∀ j, k ≤ j → j < G → szS (freeL X s f z) j = 0) ∧ wr = wb.drewN m) (fun i _ => (intOf i).toNat)
  case atStart => exact ⟨G, 0, Nat.le_refl _, rfl, fun j h1 h2 => absurd h2 (by omega), rfl⟩
  case round =>
    obtain ⟨k, m, hk, rfl, hall, rfl⟩ := hrel
    have HALL := Lib.hid hall
    clear hall
    have HPK : Hid (Pg (wb.drewN m) P (freeL X s f z)) := Lib.hid (HB.out.drewN m)
    have HOK : Hid (Only P w (wb.drewN m)) := Lib.hid (HOB.out.trans ⟨rfl, rfl, rfl, Nat.le_refl _, fun _ _ _ => rfl⟩)
    cases k with
    | zero =>
      go_wp2_with fail
      refine (setSlots_pg P 0 _ _ HPK.out (by omega)).mono ?_
      rintro e w5 ⟨rfl, h5, ho5⟩
      have H5 := Lib.hid h5
      have HO5 := Lib.hid (HOK.out.trans ho5)
      clear h5 ho5
      go_wp2_with fail
      go_ret
      exact ⟨rfl, 0, by omega, HALL.out, fun h => absurd h (by omega), H5.out, HO5.out⟩
    | succ k =>
      have CK := Lib.hid (at_pg P k _ _ HPK.out HFY.out (by rw [HSL.out]; omega))
      have hkp : (0 : Int) < (k : Int) + 1 := by omega
      have hkb : (k : Int) ≤ 127 := by omega
      by_cases hz : szS (freeL X s f z) k = 0
      · rw [atV_free hz] at CK
        have HZ := Lib.hid hz
        clear hz
        go_wp2_with fail
        refine CK.out.mono ?_
        rintro e w5 ⟨rfl, m2, rfl⟩
        go_wp2_with fail
        go_roundw
        case rel =>
          refine ⟨k, m + m2, by omega, by go_num, ?_, rfl⟩
          intro j h1 h2
          rcases Nat.lt_or_ge k j with h | h
          · exact HALL.out j h h2
          · obtain rfl : j = k := by omega
            exact HZ.out
        case measure => simp [intOf] <;> omega
      · rw [atV_some hz] at CK
        have HZ := Lib.hid hz
        clear hz
        go_wp2_with fail
        refine CK.out.mono ?_
        rintro e w5 ⟨rfl, m2, rfl⟩
        go_wp2_with fail
        refine (setSlots_pg P (k + 1) _ _ (HB.out.drewN (m + m2)) (by omega)).mono ?_
        rintro e w6 ⟨rfl, h5, ho5⟩
        have H5 := Lib.hid h5
        have HO5 := Lib.hid ((HOB.out.trans (show Only P wb (wb.drewN (m + m2)) from ⟨rfl, rfl, rfl, Nat.le_refl _, fun _ _ _ => rfl⟩)).trans ho5)
        clear h5 ho5
        go_wp2_with fail
        go_ret
        exact ⟨rfl, k + 1, hk, HALL.out, fun _ => HZ.out, H5.out, HO5.out⟩
end Go.Proofs.Ythghnhcopmmmpaa.Mem
/- Bytes cut out of a page, a page behind pack. -/
namespace Go.Proofs.Ythghnhcopmmmpaa.Mem
open Go.RowKit Go.Proofs.Ythghnhcopmmmpaa.Nums
set_option linter.unusedVariables false
set_option linter.unusedSimpArgs false
set_option maxRecDepth 100000
/-- m bytes from a on -/
def sub (X : List UInt8) (a m : Nat) : List UInt8 := (X.drop a).take m
theorem sub_len {X : List UInt8} {a m : Nat} (h : a + m ≤ X.length) : (sub X a m).length = m := by unfold sub; rw [List.length_take, List.length_drop]; omega
theorem sub_get {X : List UInt8} {a m j : Nat} (h : j < m) : (sub X a m)[j]? = X[a + j]? := by unfold sub; rw [List.getElem?_take, if_pos h, List.getElem?_drop]
theorem sub_out {X : List UInt8} {a m j : Nat} (h : m ≤ j) : (sub X a m)[j]? = none := by unfold sub; rw [List.getElem?_take, if_neg (by omega)]
theorem sub_ext {X b : List UInt8} {a m : Nat} (hb : b.length = m) (h : ∀ j, j < m → X[a + j]? = b[j]?) : sub X a m = b := by
  apply List.ext_getElem?
  intro j
  by_cases hj : j < m
  · rw [sub_get hj, h j hj]
  · rw [sub_out (by omega), List.getElem?_eq_none (by omega)]
theorem sub_eq {X Y : List UInt8} {a m : Nat} (h : ∀ j, j < m → X[a + j]? = Y[a + j]?) : sub X a m = sub Y a m := by
  apply List.ext_getElem?
  intro j
  by_cases hj : j < m
  · rw [sub_get hj, sub_get hj, h j hj]
  · rw [sub_out (by omega), sub_out (by omega)]
theorem get_of_sub {X b : List UInt8} {a m j : Nat} (h : sub X a m = b) (hj : j < m) : X[a + j]? = b[j]? := by rw [← h, sub_get hj]
theorem sub_same {X b : List UInt8} {a : Nat} (h : a + b.length ≤ X.length) : sub (lay X a b) a b.length = b := sub_ext rfl fun j hj => lay_get h hj
theorem sub_other {X b : List UInt8} {a c m : Nat} (h : a + b.length ≤ X.length) (h2 : c + m ≤ a ∨ a + b.length ≤ c) : sub (lay X a b) c m = sub X c m :=
  sub_eq fun j hj => lay_other h (by omega)
theorem get2_sub (X : List UInt8) (a : Nat) : get2 X a = leN (sub X a 2) := rfl
theorem sub_two {X b c : List UInt8} {a m n : Nat} (h1 : sub X a m = b) (h2 : sub X (a + m) n = c) (hb : b.length = m) (hc : c.length = n) : sub X a (m + n) = b ++ c := by
  refine sub_ext (by rw [List.length_append]; omega) fun j hj => ?_
  by_cases hjm : j < m
  · rw [get_of_sub h1 hjm, List.getElem?_append_left (by omega)]
  · have e := get_of_sub h2 (j := j - m) (by omega)
    rw [List.getElem?_append_right (by omega), hb, ← e]
    congr 1
    omega
theorem sub_fst {X b c : List UInt8} {a m n : Nat} (h : sub X a (m + n) = b ++ c) (hb : b.length = m) : sub X a m = b :=
  sub_ext hb fun j hj => by rw [get_of_sub h (by omega), List.getElem?_append_left (by omega)]
theorem sub_snd {X b c : List UInt8} {a m n : Nat} (h : sub X a (m + n) = b ++ c) (hb : b.length = m) (hc : c.length = n) : sub X (a + m) n = c :=
  sub_ext hc fun j hj => by
    have e := get_of_sub h (j := m + j) (by omega)
    rw [List.getElem?_append_right (by omega), hb] at e
    rw [Nat.add_assoc, e]
    congr 1
    omega
/-- place touches the header's second number, the slot's four bytes and the version's -/
theorem place_sub {X vl : List UInt8} {s at_ c m : Nat} (hX : X.length = 512) (h1 : at_ + vl.length ≤ 512) (h2 : 8 + 4 * s ≤ 512) (hc : c + m ≤ 2 ∨ 4 ≤ c) (hs : c + m ≤ 4 + 4 * s ∨ 8 + 4 * s ≤ c) (ha : c + m ≤ at_ ∨ at_ + vl.length ≤ c) : sub (placeL X s at_ vl) c m = sub X c m := by
  unfold placeL
  have e1 := lay_len (X := X) (b := vl) (a := at_) (by omega)
  have e2 := lay_len (X := lay X at_ vl) (b := nb at_ 2) (a := 2) (by rw [nb_len, e1]; omega)
  have e3 := lay_len (X := lay (lay X at_ vl) 2 (nb at_ 2)) (b := nb at_ 2) (a := 4 + 4 * s) (by rw [nb_len, e2, e1]; omega)
  rw [sub_other (by rw [nb_len, e3, e2, e1]; omega) (by rw [nb_len]; omega), sub_other (by rw [nb_len, e2, e1]; omega) (by rw [nb_len]; omega), sub_other (by rw [nb_len, e1]; omega) (by rw [nb_len]; omega), sub_other (by omega) ha]
theorem place_bg {X vl : List UInt8} {s at_ : Nat} (hX : X.length = 512) (h1 : at_ + vl.length ≤ 512) (h2 : 8 + 4 * s ≤ 512) : sub (placeL X s at_ vl) 2 2 = nb at_ 2 := by
  unfold placeL
  have e1 := lay_len (X := X) (b := vl) (a := at_) (by omega)
  have e2 := lay_len (X := lay X at_ vl) (b := nb at_ 2) (a := 2) (by rw [nb_len, e1]; omega)
  have e3 := lay_len (X := lay (lay X at_ vl) 2 (nb at_ 2)) (b := nb at_ 2) (a := 4 + 4 * s) (by rw [nb_len, e2, e1]; omega)
  rw [sub_other (by rw [nb_len, e3, e2, e1]; omega) (by rw [nb_len]; omega), sub_other (by rw [nb_len, e2, e1]; omega) (by rw [nb_len]; omega)]
  have := sub_same (X := lay X at_ vl) (b := nb at_ 2) (a := 2) (by rw [nb_len, e1]; omega)
  rwa [nb_len] at this
theorem place_slot {X vl : List UInt8} {s at_ : Nat} (hX : X.length = 512) (h1 : at_ + vl.length ≤ 512) (h2 : 8 + 4 * s ≤ 512) : sub (placeL X s at_ vl) (4 + 4 * s) 4 = nb at_ 2 ++ nb vl.length 2 := by
  unfold placeL
  have e1 := lay_len (X := X) (b := vl) (a := at_) (by omega)
  have e2 := lay_len (X := lay X at_ vl) (b := nb at_ 2) (a := 2) (by rw [nb_len, e1]; omega)
  have e3 := lay_len (X := lay (lay X at_ vl) 2 (nb at_ 2)) (b := nb at_ 2) (a := 4 + 4 * s) (by rw [nb_len, e2, e1]; omega)
  refine sub_two (m := 2) (n := 2) ?_ ?_ (nb_len _ _) (nb_len _ _)
  · rw [sub_other (by rw [nb_len, e3, e2, e1]; omega) (by rw [nb_len]; omega)]
    have := sub_same (X := lay (lay X at_ vl) 2 (nb at_ 2)) (b := nb at_ 2) (a := 4 + 4 * s) (by rw [nb_len, e2, e1]; omega)
    rwa [nb_len] at this
  · have := sub_same (X := lay (lay (lay X at_ vl) 2 (nb at_ 2)) (4 + 4 * s) (nb at_ 2)) (b := nb vl.length 2) (a := 6 + 4 * s) (by rw [nb_len, e3, e2, e1]; omega)
    rw [nb_len] at this
    rw [show 4 + 4 * s + 2 = 6 + 4 * s by omega]
    exact this
theorem place_ver {X vl : List UInt8} {s at_ : Nat} (hX : X.length = 512) (h1 : at_ + vl.length ≤ 512) (h2 : 8 + 4 * s ≤ at_) : sub (placeL X s at_ vl) at_ vl.length = vl := by
  unfold placeL
  have e1 := lay_len (X := X) (b := vl) (a := at_) (by omega)
  have e2 := lay_len (X := lay X at_ vl) (b := nb at_ 2) (a := 2) (by rw [nb_len, e1]; omega)
  have e3 := lay_len (X := lay (lay X at_ vl) 2 (nb at_ 2)) (b := nb at_ 2) (a := 4 + 4 * s) (by rw [nb_len, e2, e1]; omega)
  rw [sub_other (by rw [nb_len, e3, e2, e1]; omega) (by rw [nb_len]; omega), sub_other (by rw [nb_len, e2, e1]; omega) (by rw [nb_len]; omega), sub_other (by rw [nb_len, e1]; omega) (by rw [nb_len]; omega)]
  exact sub_same (by omega)
theorem leN_nb2 {U : Nat} (h : U < 65536) : leN (nb U 2) = U := leN_nb U 2 (by omega)
/-- the page behind the first k slots' turn in pack -/
def pk (X : List UInt8) : Nat → List UInt8
  | 0 => lay (lay X (bgN X) (List.replicate (512 - bgN X) 0)) 2 (nb 512 2)
  | k + 1 => if szS X k = 0 then pk X k else placeL (pk X k) k (512 - suN X (k + 1)) (sub X (frS X k) (szS X k))
structure PkOk (X : List UInt8) : Prop where
  len : X.length = 512
  fine : Fine X
  sum : 4 + 4 * slN X + suN X (slN X) ≤ 512
  bg : bgN X < 512
  low : 4 + 4 * slN X ≤ bgN X
theorem suN_mono (X : List UInt8) {j k : Nat} (h : j ≤ k) : suN X j ≤ suN X k := by
  induction h with
  | refl => exact Nat.le_refl _
  | step h ih => exact Nat.le_trans ih (Nat.le_add_right _ _)
section
variable {X : List UInt8}
theorem pk_len0 (h : PkOk X) : (lay X (bgN X) (List.replicate (512 - bgN X) 0)).length = 512 := by
  have := h.bg
  rw [lay_len (by rw [List.length_replicate, h.len]; omega), h.len]
theorem pk_len (h : PkOk X) : ∀ k, k ≤ slN X → (pk X k).length = 512
  | 0, _ => by unfold pk; rw [lay_len (by rw [nb_len, pk_len0 h]; omega), pk_len0 h]
  | k + 1, hk => by
    have ih := pk_len h k (by omega)
    have hm := suN_mono X hk
    have hs := h.sum
    have hf := h.fine.fit k (by omega)
    have ht := h.fine.top
    unfold pk
    split
    · exact ih
    · refine placeL_len ih ?_ (by omega)
      have e : (sub X (frS X k) (szS X k)).length = szS X k := sub_len (by rw [h.len]; exact hf)
      rw [e]
      show 512 - (suN X k + szS X k) + szS X k ≤ 512
      have : suN X (k + 1) = suN X k + szS X k := rfl
      omega
theorem pk_bg (h : PkOk X) : ∀ k, k ≤ slN X → sub (pk X k) 2 2 = nb (512 - suN X k) 2
  | 0, _ => by
    unfold pk
    have := sub_same (X := lay X (bgN X) (List.replicate (512 - bgN X) 0)) (b := nb 512 2) (a := 2) (by rw [nb_len, pk_len0 h]; omega)
    rwa [nb_len] at this
  | k + 1, hk => by
    have ih := pk_bg h k (by omega)
    have hm := suN_mono X hk
    have hs := h.sum
    have hf := h.fine.fit k (by omega)
    have ht := h.fine.top
    unfold pk
    split
    · rename_i hz
      rw [ih, show suN X (k + 1) = suN X k + szS X k from rfl, hz, Nat.add_zero]
    · have e : (sub X (frS X k) (szS X k)).length = szS X k := sub_len (by rw [h.len]; exact hf)
      refine place_bg (pk_len h k (by omega)) ?_ (by omega)
      rw [e]
      have : suN X (k + 1) = suN X k + szS X k := rfl
      omega
theorem pk_bgN (h : PkOk X) {k : Nat} (hk : k ≤ slN X) : bgN (pk X k) = 512 - suN X k := by
  show leN (sub (pk X k) 2 2) = _
  rw [pk_bg h k hk, leN_nb2 (by omega)]
end
end Go.Proofs.Ythghnhcopmmmpaa.Mem
/- Page.pack. -/
namespace Go.Proofs.Ythghnhcopmmmpaa.Mem
open Go.RowKit Go.Proofs.Ythghnhcopmmmpaa.Nums
set_option linter.unusedVariables false
set_option linter.unusedSimpArgs false
set_option maxRecDepth 100000
set_option maxHeartbeats 1000000
attribute [local go_sem] neq_nil_nil neq_some_nil
theorem page_size : (Try.prog.info? 113).map (·.size) = some 512 := by kernel_rfl
theorem u8s_all (l : List UInt8) : (u8s l).toArray.all (·.oneCell') = true := by
  rw [Array.all_eq_true_iff_forall_mem]
  intro v hv
  exact u8s_one l v (by simpa using hv)
theorem Only.drewN {w w' : World} {g : Nat} (h : Only g w w') (n : Nat) : Only g w (w'.drewN n) := ⟨h.os, h.tape, h.output, h.size, h.block⟩
theorem pack_pg (P : Nat) (X : List UInt8) (w : World) (hp : Pg w P X) (hk : PkOk X) :
    Calls Try.prog 80 #[.pointer (some ⟨P, 0, none⟩)] w fun e w' => e = .returned (.tuple #[]) ∧ Pg w' P (pk X (slN X)) ∧ Only P w w' := by
  have HP := Lib.hid hp
  have HK := Lib.hid hk
  clear hp hk
  obtain ⟨W, hW⟩ : ∃ W, w.heap.size = W := ⟨_, rfl⟩
  have HW := Lib.hid hW
  clear hW
  go_enter Try.func80, Try.ntmps80
  go_wp2_with (first
    | (refine wpList_load_row rfl 113 (.tmp 6) rfl P rfl 113 (u8s X).toArray (0, 0) _ HP.out.1 Try.underlying113 rfl (by rw [page_size, List.size_toArray, u8s_len, HP.out.2]) ?_)
    | (refine wpList_store_row rfl 113 (.tmp 2) (.tmp 7) rfl w.heap.size (u8s X).toArray rfl rfl 113 Try.zeroCells113 (heap_alloc_new w _) (by rw [page_size, List.size_toArray, u8s_len, HP.out.2]) (by rw [zero_pg, List.size_toArray, u8s_len, List.length_replicate, List.size_toArray, u8s_len, HP.out.2]) (u8s_all X) ?_))
  obtain ⟨w1, hw1⟩ : ∃ w1, (w.alloc (.cells Try.zeroCells113 113)).setRow w.heap.size (u8s X).toArray = w1 := ⟨_, rfl⟩
  rw [hw1, HW.out]
  have HQ1 : Hid (Pg w1 W X) := Lib.hid ⟨by rw [← hw1, ← HW.out]; exact setRow_heap _ _ _ _ _ _ (heap_alloc_new w _), HP.out.2⟩
  have HO1 : Hid (Only P w w1) := Lib.hid (by
    rw [← hw1]
    refine ⟨rfl, rfl, rfl, by rw [size_setRow, size_alloc]; omega, fun k hk _ => ?_⟩
    rw [setRow_other _ _ _ _ (by omega), (Below.heap_alloc w _ k hk)])
  have hPW : P < W := by rw [← HW.out]; exact Blk.lt HP.out.1
  have HP1 : Hid (Pg w1 P X) := Lib.hid ⟨by
    rw [← hw1]
    unfold BB Blk
    rw [setRow_other _ _ _ _ (by rw [HW.out]; omega), (Below.heap_alloc w _ P (by rw [HW.out]; exact hPW))]
    exact HP.out.1, HP.out.2⟩
  clear hw1
  have C1 := Lib.hid (begin_pg W X w1 HQ1.out)
  have e : get2 X 2 = bgN X := rfl
  rw [e] at C1
  have hb1 := HK.out.bg
  have hb2 := HK.out.low
  have HL0 := Lib.hid (pk_len0 HK.out)
  obtain ⟨b, hb⟩ : ∃ b, bgN X = b := ⟨_, rfl⟩
  rw [hb] at hb1 hb2 C1 HL0
  obtain ⟨w2, hca, hba, hoa⟩ := run_clear_bb P 113 X b (512 - b) (512 - b) (w1.drewN 1) (HP1.out.drewN 1).1 (by omega) (by rw [HP1.out.2]; omega)
  have HP2 : Hid (Pg w2 P (lay X b (List.replicate (512 - b) 0))) := Lib.hid ⟨hba, HL0.out⟩
  have HO2 := Lib.hid hoa
  have HB := Lib.hid hb
  have k1 : (0 : Int) ≤ b := Int.natCast_nonneg _
  have k2 : (b : Int) ≤ 512 := by omega
  have k3 : ¬ 512 - b = 0 := by omega
  have k4 : ((512 : Int) - b).toNat = 512 - b := by omega
  have hoq : BB w2 W 113 X := hoa.blk (HQ1.out.drewN 1).1 (by omega)
  clear e hba hoa hb
  have C1' : ∀ n, Calls Try.prog 79 #[.pointer (some ⟨W, 0, none⟩)] (w1.drewN n) fun e w' => e = .returned (.int .i64 b) ∧ w1.drewN n = w' := by
    intro n
    have := begin_pg W X (w1.drewN n) (HQ1.out.drewN n)
    have e : get2 X 2 = b := HB.out
    rwa [e] at this
  have CC := Lib.hid C1'
  clear C1'
  go_region_with (go_at_call 79; refine (CC.out _).mono ?_; rintro e w3 ⟨rfl, rfl⟩)
  clear hca
  go_wp2_with fail
  have HO2 : Hid (Only P w w2) := Lib.hid ((HO1.out.drewN 1).trans HO2.out)
  have HQ2 : Hid (Pg w2 W X) := Lib.hid ⟨hoq, HQ1.out.2⟩
  refine (setBegin_pg P 512 _ _ HP2.out (by omega)).mono ?_
  rintro e w3 ⟨rfl, h3, ho3⟩
  have HP3 : Hid (Pg w3 P (pk X 0)) := Lib.hid (by have e : pk X 0 = lay (lay X b (List.replicate (512 - b) 0)) 2 (nb 512 2) := (by unfold pk; rw [HB.out]); rw [e]; exact h3)
  have HO3 := Lib.hid (HO2.out.trans ho3)
  have HQ3 : Hid (Pg w3 W X) := Lib.hid ⟨ho3.blk HQ2.out.1 (by omega), HQ2.out.2⟩
  clear h3 ho3 hoq
  go_wp2_with fail
  refine (slots_pg W X w3 HQ3.out).mono ?_
  rintro e w4 ⟨rfl, rfl⟩
  have e : get2 X 0 = slN X := rfl
  rw [e]
  clear e
  obtain ⟨G, hG⟩ : ∃ G, slN X = G := ⟨_, rfl⟩
  have HG := Lib.hid hG
  rw [hG]
  have htop := HK.out.fine.top
  rw [hG] at htop hb2
  clear hG
  go_wp2_with fail
  go_loopw [16] (fun i wr => ∃ k : Nat, k ≤ G ∧ i = .int .i64 k ∧ Pg wr P (pk X k) ∧ Pg wr W X ∧ Only P w wr) (fun i _ => G - (intOf i).toNat)
  case atStart => exact ⟨0, by omega, rfl, HP3.out, HQ3.out, HO3.out⟩
  case round =>
    obtain ⟨k, hk, rfl, hpk, hqk, hok⟩ := hrel
    have HPK := Lib.hid hpk
    have HQK := Lib.hid hqk
    have HOK := Lib.hid hok
    clear hpk hqk hok
    by_cases hlt : k < G
    · have hlt' : (k : Int) < G := by omega
      have CA := Lib.hid (at_pg W k X wr HQK.out HK.out.fine (by rw [HG.out]; exact hlt))
      by_cases hz : szS X k = 0
      · rw [atV_free hz] at CA
        have HE : Hid (pk X (k + 1) = pk X k) := Lib.hid (by show (if szS X k = 0 then _ else _) = _; rw [if_pos hz])
        clear hz
        go_wp2_with fail
        refine CA.out.mono ?_
        rintro e w5 ⟨rfl, m, rfl⟩
        go_wp2_with fail
        go_roundw
        case rel => exact ⟨k + 1, by omega, by go_num, by rw [HE.out]; exact HPK.out.drewN m, HQK.out.drewN m, HOK.out.trans ⟨rfl, rfl, rfl, Nat.le_refl _, fun _ _ _ => rfl⟩⟩
        case measure => simp [intOf]; omega
      · rw [atV_some hz] at CA
        have hfit := HK.out.fine.fit k (by rw [HG.out]; exact hlt)
        have hsum := HK.out.sum
        have hm := suN_mono X (show k + 1 ≤ slN X by rw [HG.out]; omega)
        have hs1 : suN X (k + 1) = suN X k + szS X k := rfl
        have hbg := pk_bgN HK.out (k := k) (by rw [HG.out]; omega)
        have HE : Hid (pk X (k + 1) = placeL (pk X k) k (512 - suN X (k + 1)) (sub X (frS X k) (szS X k))) := Lib.hid (by show (if szS X k = 0 then _ else _) = _; rw [if_neg hz])
        have hsl : (sub X (frS X k) (szS X k)).length = szS X k := sub_len (by rw [HK.out.len]; exact hfit)
        rw [HG.out] at hsum hm
        have CPL : ∀ m, Calls Try.prog 82 #[.pointer (some ⟨P, 0, none⟩), .int .i64 k, .slice (some ⟨W, frS X k, none⟩) (szS X k) (512 - frS X k : Nat)] (wr.drewN m) fun e w' => e = .returned (.tuple #[]) ∧ Pg w' P (placeL (pk X k) k (512 - suN X (k + 1)) (sub X (frS X k) (szS X k))) ∧ Only P (wr.drewN m) w' := fun m =>
          place_pg P k (512 - suN X (k + 1)) (szS X k) (512 - frS X k) (pk X k) (sub X (frS X k) (szS X k)) ⟨W, frS X k, none⟩ (wr.drewN m) (HPK.out.drewN m) (by rw [hbg]; omega) (by omega) hsl (by omega) (by omega) (fun j v hv => by
            have := (BB.at_ (HQK.out.drewN m).1 (frS X k) (szS X k)).2 j v hv
            exact this)
        have HCPL := Lib.hid CPL
        clear CPL hsl hbg hs1 hm hsum hfit hz
        generalize frS X k = F at *
        generalize szS X k = Z at *
        go_wp2_with fail
        refine CA.out.mono ?_
        rintro e w5 ⟨rfl, m, rfl⟩
        go_wp2_with fail
        refine (HCPL.out m).mono ?_
        rintro e w6 ⟨rfl, h6, ho6⟩
        rw [← HE.out] at h6
        have H6 := Lib.hid h6
        have HO6 := Lib.hid ho6
        clear h6 ho6
        go_wp2_with fail
        go_roundw
        case rel =>
          have ho := HO6.out
          exact ⟨k + 1, by omega, by go_num, H6.out, ⟨ho.blk (HQK.out.drewN m).1 (by omega), HQK.out.2⟩, (HOK.out.drewN m).trans ho⟩
        case measure => simp [intOf]; omega
    · obtain rfl : k = G := by omega
      go_wp2_with fail
      exact bodyPost_end (v := .tuple #[]) (by simp [results, Try.results80, go_sem]) rfl ⟨rfl, by rw [HG.out]; exact HPK.out, HOK.out⟩
end Go.Proofs.Ythghnhcopmmmpaa.Mem
