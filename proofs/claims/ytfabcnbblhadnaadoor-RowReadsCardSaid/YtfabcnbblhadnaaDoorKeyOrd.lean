/- The bytes of values stand as the values do: the mathematics. -/
import Derived.Test.YtfabcnbblhadnaaDoorLBehind
import Derived.Test.YtfabcnbblhadnaaDoorCellS2
namespace Go.Proofs.YtfabcnbblhadnaaDoor.Mem
open Go.RowKit Go.Proofs.YtfabcnbblhadnaaDoor.Nums
open Go.Op (bytesLess)
open Go.Proofs.YtfabcnbblhadnaaDoor.Cell (lessR sameR placeR rightB good noz)
set_option linter.unusedVariables false
set_option linter.unusedSimpArgs false
set_option maxRecDepth 100000
theorem bl_asym (x y : List UInt8) (h : bytesLess x y = true) : bytesLess y x = false := by
  induction x generalizing y with
  | nil => rw [bl_nil]
  | cons a x ih =>
    cases y with
    | nil => rw [bl_nil] at h; cases h
    | cons b y =>
      rw [bl_cons] at h ⊢
      rcases u8_tri a b with t | t | t
      · rw [u8_not_gt t, u8_ne_of_gt t]; rfl
      · subst t
        rw [decide_eq_false (u8_irr a)] at h ⊢
        simp only [beq_self_eq_true, Bool.true_and, Bool.false_or] at h ⊢
        exact ih y h
      · rw [u8_not_gt t, u8_ne_of_gt t] at h
        cases h
theorem bl_self (x : List UInt8) : bytesLess x x = false := by
  cases h : bytesLess x x with
  | false => rfl
  | true => rw [bl_asym x x h] at h; cases h
/-- big-endian digits, one by one -/
def beR : Nat → Nat → List UInt8
  | 0, _ => []
  | n + 1, U => UInt8.ofNat (U / 256 ^ n) :: beR n (U % 256 ^ n)
theorem beR_len : ∀ n U, (beR n U).length = n
  | 0, _ => rfl
  | n + 1, U => by show (beR n _).length + 1 = _; rw [beR_len n]
theorem byte_eq {a b : Nat} (h : a % 256 = b % 256) : UInt8.ofNat a = UInt8.ofNat b := by
  apply UInt8.toNat_inj.1
  rw [UInt8.toNat_ofNat', UInt8.toNat_ofNat']
  exact h
theorem beU_beR (U : Nat) : beU U = beR 8 U := by
  show [UInt8.ofNat (U / 2 ^ 56), UInt8.ofNat (U / 2 ^ 48), UInt8.ofNat (U / 2 ^ 40), UInt8.ofNat (U / 2 ^ 32), UInt8.ofNat (U / 2 ^ 24), UInt8.ofNat (U / 2 ^ 16), UInt8.ofNat (U / 2 ^ 8), UInt8.ofNat (U / 2 ^ 0)] = _
  simp only [beR]
  congr 1
  congr 1
  · exact byte_eq (by omega)
  congr 1
  · exact byte_eq (by omega)
  congr 1
  · exact byte_eq (by omega)
  congr 1
  · exact byte_eq (by omega)
  congr 1
  · exact byte_eq (by omega)
  congr 1
  · exact byte_eq (by omega)
  congr 1
  · exact byte_eq (by omega)
theorem beR_less : ∀ (n U1 U2 : Nat) (r1 r2 : List UInt8), U1 < U2 → U2 < 256 ^ n → bytesLess (beR n U1 ++ r1) (beR n U2 ++ r2) = true
  | 0, U1, U2, r1, r2, h, h2 => by simp at h2; omega
  | n + 1, U1, U2, r1, r2, h, h2 => by
    have hp : 0 < 256 ^ n := Nat.pow_pos (by omega)
    have h3 : U2 < 256 * 256 ^ n := by rw [Nat.pow_succ] at h2; rw [Nat.mul_comm]; exact h2
    have hd2 : U2 / 256 ^ n < 256 := by rw [Nat.div_lt_iff_lt_mul hp]; exact h3
    have hle : U1 / 256 ^ n ≤ U2 / 256 ^ n := Nat.div_le_div_right (Nat.le_of_lt h)
    show bytesLess (UInt8.ofNat (U1 / 256 ^ n) :: (beR n (U1 % 256 ^ n) ++ r1)) (UInt8.ofNat (U2 / 256 ^ n) :: (beR n (U2 % 256 ^ n) ++ r2)) = true
    rw [bl_cons]
    rcases Nat.lt_or_eq_of_le hle with hl | he
    · rw [decide_eq_true (by rw [UInt8.lt_iff_toNat_lt, UInt8.toNat_ofNat', UInt8.toNat_ofNat', Nat.mod_eq_of_lt (by omega), Nat.mod_eq_of_lt (by omega)]; exact hl)]
      rfl
    · have e1 := Nat.div_add_mod U1 (256 ^ n)
      have e2 := Nat.div_add_mod U2 (256 ^ n)
      rw [he] at e1
      have hm : U1 % 256 ^ n < U2 % 256 ^ n := by omega
      rw [he, beR_less n _ _ r1 r2 hm (Nat.mod_lt _ hp)]
      simp
theorem text_less (s1 s2 r1 r2 : List UInt8) (h2 : noz s2 = true) (h1 : noz s1 = true) (h : bytesLess s1 s2 = true) : bytesLess (s1 ++ 0 :: r1) (s2 ++ 0 :: r2) = true := by
  induction s1 generalizing s2 with
  | nil =>
    cases s2 with
    | nil => cases h
    | cons b s2 =>
      have hb : b ≠ 0 := by
        have : (b != 0) = true := by unfold noz at h2; rw [List.all_cons, Bool.and_eq_true] at h2; exact h2.1
        simpa using this
      show bytesLess (0 :: r1) (b :: (s2 ++ 0 :: r2)) = true
      rw [bl_cons]
      have : (0 : UInt8) < b := by
        rcases u8_tri 0 b with t | t | t
        · exact t
        · exact absurd t.symm hb
        · have := UInt8.lt_iff_toNat_lt.1 t
          have : (0 : UInt8).toNat = 0 := rfl
          omega
      rw [decide_eq_true this]
      rfl
  | cons a s1 ih =>
    cases s2 with
    | nil => rw [bl_nil] at h; cases h
    | cons b s2 =>
      have hn1 : noz s1 = true := by unfold noz at h1 ⊢; rw [List.all_cons, Bool.and_eq_true] at h1; exact h1.2
      have hn2 : noz s2 = true := by unfold noz at h2 ⊢; rw [List.all_cons, Bool.and_eq_true] at h2; exact h2.2
      show bytesLess (a :: (s1 ++ 0 :: r1)) (b :: (s2 ++ 0 :: r2)) = true
      rw [bl_cons] at h ⊢
      rcases u8_tri a b with t | t | t
      · rw [decide_eq_true t]; rfl
      · subst t
        rw [decide_eq_false (u8_irr a)] at h ⊢
        simp only [beq_self_eq_true, Bool.true_and, Bool.false_or] at h ⊢
        exact ih s2 hn2 hn1 h
      · rw [u8_not_gt t, u8_ne_of_gt t] at h
        cases h
/-- what a right value is -/
theorem right_cases {v : V} (h : v.right = true) (hi : Nums.In64 v.i) : (v = ⟨0, 0, ⟨#[]⟩, false⟩) ∨ (∃ b, v = ⟨3, 0, ⟨#[]⟩, b⟩) ∨ (∃ i, Nums.In64 i ∧ v = ⟨1, i, ⟨#[]⟩, false⟩) ∨ (∃ s, v = ⟨2, 0, s, false⟩ ∧ noz s.data.toList = true) := by
  obtain ⟨k, i, s, b⟩ := v
  have h0 : rightB k i s b = true := h
  have hi' : Nums.In64 i := hi
  have he : ∀ {s : ByteArray}, s.toList.isEmpty = true → s = ⟨#[]⟩ := fun {s} e => by
    rw [ByteArray.toList_eq] at e
    apply ByteArray.ext
    apply Array.ext'
    simpa using e
  unfold rightB at h0
  by_cases c0 : k = 0
  · rw [if_pos c0] at h0
    simp only [Bool.and_eq_true, beq_iff_eq, Bool.not_eq_true'] at h0
    obtain ⟨⟨e1, e2⟩, e3⟩ := h0
    left; rw [c0, e1, he e2, e3]
  rw [if_neg c0] at h0
  by_cases c1 : k = 1
  · rw [if_pos c1] at h0
    simp only [Bool.and_eq_true, beq_iff_eq, Bool.not_eq_true'] at h0
    right; right; left; exact ⟨i, hi', by rw [c1, he h0.1, h0.2]⟩
  rw [if_neg c1] at h0
  by_cases c2 : k = 2
  · rw [if_pos c2] at h0
    simp only [Bool.and_eq_true, beq_iff_eq, Bool.not_eq_true', decide_eq_true_eq] at h0
    right; right; right
    refine ⟨s, by rw [c2, h0.1.1.1, h0.1.1.2], ?_⟩
    have := h0.2
    unfold good at this
    rw [Bool.and_eq_true] at this
    exact this.2
  rw [if_neg c2] at h0
  by_cases c3 : k = 3
  · rw [if_pos c3] at h0
    simp only [Bool.and_eq_true, beq_iff_eq] at h0
    right; left; exact ⟨b, by rw [c3, h0.1, he h0.2]⟩
  rw [if_neg c3] at h0
  cases h0
def V.less (a b : V) : Bool := lessR a.k a.i a.s a.b b.k b.i b.s b.b
def V.same (a b : V) : Bool := sameR a.k a.i a.s a.b b.k b.i b.s b.b
theorem bytes_less {a b : V} (ha : a.right = true) (hb : b.right = true) (ia : Nums.In64 a.i) (ib : Nums.In64 b.i) (h : a.less b = true) (r1 r2 : List UInt8) : bytesLess (a.bytes ++ r1) (b.bytes ++ r2) = true := by
  rcases right_cases ha ia with rfl | ⟨b1, rfl⟩ | ⟨i1, hi1, rfl⟩ | ⟨s1, rfl, n1⟩ <;> rcases right_cases hb ib with rfl | ⟨b2, rfl⟩ | ⟨i2, hi2, rfl⟩ | ⟨s2, rfl, n2⟩
  · cases h
  · cases b2 <;> rfl
  · rfl
  · rfl
  · cases b1 <;> cases h
  · cases b1 <;> cases b2 <;> first | rfl | cases h
  · cases b1 <;> rfl
  · cases b1 <;> rfl
  · cases h
  · cases b2 <;> cases h
  · have hlt : i1 < i2 := by simpa [V.less, lessR, placeR] using h
    show bytesLess ((3 :: beU (turned i1)) ++ r1) ((3 :: beU (turned i2)) ++ r2) = true
    rw [beU_beR, beU_beR]
    show bytesLess (3 :: (beR 8 (turned i1) ++ r1)) (3 :: (beR 8 (turned i2) ++ r2)) = true
    unfold Nums.In64 at hi1 hi2
    rw [bl_cons, beR_less 8 _ _ r1 r2 (by unfold turned; omega) (by unfold turned; omega)]
    rfl
  · rfl
  · cases h
  · cases b2 <;> cases h
  · cases h
  · have hlt : bytesLess s1.toList s2.toList = true := by simpa [V.less, lessR, placeR] using h
    rw [ByteArray.toList_eq, ByteArray.toList_eq] at hlt
    show bytesLess ((4 :: (s1.data.toList ++ [0])) ++ r1) ((4 :: (s2.data.toList ++ [0])) ++ r2) = true
    have := text_less _ _ r1 r2 n2 n1 hlt
    show bytesLess (4 :: ((s1.data.toList ++ [0]) ++ r1)) (4 :: ((s2.data.toList ++ [0]) ++ r2)) = true
    rw [bl_cons, List.append_assoc, List.append_assoc]
    show (_ || (_ && bytesLess (s1.data.toList ++ 0 :: r1) (s2.data.toList ++ 0 :: r2))) = true
    rw [this]
    rfl
theorem bl_tot (x y : List UInt8) (h1 : bytesLess x y = false) (h2 : bytesLess y x = false) : x = y := by
  induction x generalizing y with
  | nil => cases y with
    | nil => rfl
    | cons b y => cases h1
  | cons a x ih =>
    cases y with
    | nil => cases h2
    | cons b y =>
      rw [bl_cons] at h1 h2
      rcases u8_tri a b with t | t | t
      · rw [decide_eq_true t] at h1; cases h1
      · subst t
        rw [decide_eq_false (u8_irr a)] at h1 h2
        simp only [beq_self_eq_true, Bool.true_and, Bool.false_or] at h1 h2
        rw [ih y h1 h2]
      · rw [decide_eq_true t] at h2; cases h2
theorem same_right {a b : V} (ha : a.right = true) (hb : b.right = true) (ia : Nums.In64 a.i) (ib : Nums.In64 b.i) (h : a.same b = true) : a = b := by
  have h' : a.less b = false ∧ b.less a = false := by
    have : (!a.less b && !b.less a) = true := h
    simpa using this
  obtain ⟨h1, h2⟩ := h'
  rcases right_cases ha ia with rfl | ⟨b1, rfl⟩ | ⟨i1, hi1, rfl⟩ | ⟨s1, rfl, n1⟩ <;> rcases right_cases hb ib with rfl | ⟨b2, rfl⟩ | ⟨i2, hi2, rfl⟩ | ⟨s2, rfl, n2⟩
  · rfl
  · cases b2 <;> cases h1
  · cases h1
  · cases h1
  · cases b1 <;> cases h2
  · cases b1 <;> cases b2 <;> first | rfl | (exfalso; revert h1; decide) | (exfalso; revert h2; decide)
  · cases b1 <;> cases h1
  · cases b1 <;> cases h1
  · cases h2
  · cases b2 <;> cases h2
  · have e1 : ¬ i1 < i2 := by simpa [V.less, lessR, placeR] using h1
    have e2 : ¬ i2 < i1 := by simpa [V.less, lessR, placeR] using h2
    have : i1 = i2 := by omega
    rw [this]
  · cases h1
  · cases h2
  · cases b2 <;> cases h2
  · cases h2
  · have e1 : bytesLess s1.toList s2.toList = false := by simpa [V.less, lessR, placeR] using h1
    have e2 : bytesLess s2.toList s1.toList = false := by simpa [V.less, lessR, placeR] using h2
    have := bl_tot _ _ e1 e2
    rw [ByteArray.toList_eq, ByteArray.toList_eq] at this
    have : s1 = s2 := by apply ByteArray.ext; apply Array.ext'; exact this
    rw [this]
theorem same_self {a : V} (ha : a.right = true) (ia : Nums.In64 a.i) : a.same a = true := by
  have h : a.less a = false := by
    rcases right_cases ha ia with rfl | ⟨b1, rfl⟩ | ⟨i1, hi1, rfl⟩ | ⟨s1, rfl, n1⟩
    · rfl
    · cases b1 <;> rfl
    · simp [V.less, lessR, placeR]
    · simp [V.less, lessR, placeR, bl_self]
  show (!a.less a && !a.less a) = true
  rw [h]; rfl
end Go.Proofs.YtfabcnbblhadnaaDoor.Mem
