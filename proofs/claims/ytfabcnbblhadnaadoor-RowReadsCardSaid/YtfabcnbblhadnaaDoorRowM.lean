/- What the bytes of a row of kinds are read back as: the mathematics. -/
import Derived.Test.YtfabcnbblhadnaaDoorRowD
import Derived.Test.YtfabcnbblhadnaaDoorRowInj
import Derived.Test.YtfabcnbblhadnaaDoorKeyM
namespace Go.Proofs.YtfabcnbblhadnaaDoor.Mem
open Go.RowKit Go.Proofs.YtfabcnbblhadnaaDoor.Nums
open Go.Proofs.YtfabcnbblhadnaaDoor.Cell (U8 noz)
set_option linter.unusedVariables false
set_option linter.unusedSimpArgs false
set_option maxRecDepth 100000
theorem leN_leU {U : Nat} (h : U < 18446744073709551616) : leN (leU U) = U := by
  have e : leU U = [UInt8.ofNat (U / 2 ^ 0), UInt8.ofNat (U / 2 ^ 8), UInt8.ofNat (U / 2 ^ 16), UInt8.ofNat (U / 2 ^ 24), UInt8.ofNat (U / 2 ^ 32), UInt8.ofNat (U / 2 ^ 40), UInt8.ofNat (U / 2 ^ 48), UInt8.ofNat (U / 2 ^ 56)] := rfl
  rw [e]
  simp only [leN, UInt8.toNat_ofNat']
  omega
theorem wrap_back {i : Int} (h : Nums.In64 i) : wrap64 ((wrapped i : Nat) : Int) = i := by
  obtain ⟨h1, h2⟩ := h
  unfold wrap64 wrapped
  omega
theorem rFirst_back {v : V} (h : v.right = true) (hi : Nums.In64 v.i) (h0 : v.k ≠ 0) (r : List UInt8) : rFirst v.k (v.rbytes ++ r) = some (v, r) := by
  have hs := (right_kind h).2
  rcases right_cases h hi with e | ⟨b, e⟩ | ⟨i, ii, e⟩ | ⟨s, e, hz⟩
  · subst e; exact absurd rfl h0
  · subst e
    cases b <;> rfl
  · subst e
    show rNum (leU (wrapped i) ++ r) = _
    unfold rNum
    rw [if_pos (by rw [List.length_append, leU_len]; omega), List.take_left' (leU_len _), List.drop_left' (leU_len _), leN_leU (wrapped_lt i), wrap_back ii]
  · subst e
    change s.size ≤ 60 at hs
    show rText (UInt8.ofNat s.size :: (s.data.toList ++ r)) = _
    have hn : (UInt8.ofNat s.size).toNat = s.data.toList.length := by
      rw [UInt8.toNat_ofNat', Array.length_toList]
      show s.size % 256 = s.size
      omega
    simp only [rText]
    rw [hn, if_pos (by rw [List.length_append]; omega), List.take_left' rfl, List.drop_left' rfl, str_data, if_pos h]
theorem rFirst_app {k : Int} {y r : List UInt8} {v : V} (h : rFirst k y = some (v, r)) (t : List UInt8) : rFirst k (y ++ t) = some (v, r ++ t) := by
  unfold rFirst at h ⊢
  split at h
  · rename_i hk
    rw [if_pos hk]
    unfold rNum at h ⊢
    split at h
    · rename_i h8
      injection h with h
      injection h with h1 h2
      subst h1 h2
      rw [if_pos (by rw [List.length_append]; omega), List.take_append_of_le_length h8, List.drop_append_of_le_length h8]
    · cases h
  rename_i hk1
  rw [if_neg hk1]
  split at h
  · rename_i hk
    rw [if_pos hk]
    cases y with
    | nil => cases h
    | cons b x =>
      simp only [rText, List.cons_append] at h ⊢
      split at h
      · rename_i hb
        rw [if_pos (by rw [List.length_append]; omega), List.take_append_of_le_length hb, List.drop_append_of_le_length hb]
        split at h
        · rename_i hr
          rw [if_pos hr]
          injection h with h
          injection h with h1 h2
          subst h1 h2
          rfl
        · cases h
      · cases h
  · rename_i hk
    rw [if_neg hk]
    cases y with
    | nil => cases h
    | cons b x =>
      simp only [fBool, List.cons_append] at h ⊢
      split at h
      · rename_i hb
        rw [if_pos hb]
        injection h with h
        injection h with h1 h2
        subst h1 h2
        rfl
      · cases h
theorem readK_app : ∀ (ks : List UInt8) (z : Nat) (y r : List UInt8) (l : List V) (t : List UInt8), readK ks z y = some (l, r) → readK ks z (y ++ t) = some (l, r ++ t)
  | [], z, y, r, l, t, h => by
    injection h with h
    injection h with h1 h2
    subst h1 h2
    rfl
  | k :: ks, z, y, r, l, t, h => by
    unfold readK at h ⊢
    split at h
    · rename_i hz
      rw [if_pos hz]
      cases hr : readK ks (z / 2) y with
      | none => rw [hr] at h; cases h
      | some p =>
        rw [hr] at h
        injection h with h
        injection h with h1 h2
        subst h1
        rw [readK_app ks _ y p.2 p.1 t hr]
        subst h2
        rfl
    · rename_i hz
      rw [if_neg hz]
      cases hf : rFirst (k.toNat : Int) y with
      | none => rw [hf] at h; cases h
      | some p =>
        obtain ⟨v, y'⟩ := p
        rw [hf] at h
        rw [rFirst_app hf t]
        simp only at h ⊢
        cases hr : readK ks (z / 2) y' with
        | none => rw [hr] at h; cases h
        | some p =>
          rw [hr] at h
          injection h with h
          injection h with h1 h2
          subst h1
          rw [readK_app ks _ y' p.2 p.1 t hr]
          subst h2
          rfl
theorem readK_back : ∀ (ks : List UInt8) (l : List V) (r : List UInt8), l.length = ks.length → l.all V.right = true → (∀ v ∈ l, v.ok) → offs l ks = false → readK ks (nullsC l) (rBody l ++ r) = some (l, r)
  | [], l, r, hl, _, _, _ => by
    rw [List.eq_nil_of_length_eq_zero hl]
    rfl
  | k :: ks, [], r, hl, _, _, _ => by cases hl
  | k :: ks, v :: l, r, hl, hr, ho, hf => by
    rw [List.all_cons, Bool.and_eq_true] at hr
    have hf' : off1 v k = false ∧ offs l ks = false := by
      have : (off1 v k || offs l ks) = false := hf
      simpa using this
    have ih := readK_back ks l r (by simpa using hl) hr.2 (fun u hu => ho u (by simp [hu])) hf'.2
    have iv := (ho v (by simp)).1
    have hn : nullsC (v :: l) = (if v.k = 0 then 1 else 0) + 2 * nullsC l := rfl
    have hb : rBody (v :: l) ++ r = v.rbytes ++ (rBody l ++ r) := by show (v.rbytes ++ rBody l) ++ r = _; rw [List.append_assoc]
    rw [hb]
    unfold readK
    by_cases h0 : v.k = 0
    · rw [hn, if_pos h0, if_pos (by omega), show (1 + 2 * nullsC l) / 2 = nullsC l by omega]
      have hv : v = V0 := by
        rcases right_cases hr.1 iv with e | ⟨b, e⟩ | ⟨i, ii, e⟩ | ⟨s, e, hz⟩
        · exact e
        · subst e; cases h0
        · subst e; cases h0
        · subst e; cases h0
      subst hv
      show (readK ks (nullsC l) ([] ++ (rBody l ++ r))).map _ = _
      rw [List.nil_append, ih]
      rfl
    · have hk : v.k = (k.toNat : Int) := by
        have := hf'.1
        unfold off1 at this
        have hu : (v.k == 0) = false := by simpa using h0
        rw [hu] at this
        simpa using this
      rw [hn, if_neg h0, if_neg (by omega), ← hk, rFirst_back hr.1 iv h0, show (0 + 2 * nullsC l) / 2 = nullsC l by omega]
      simp only
      rw [ih]
      rfl
theorem nulls_byte {ks : List UInt8} {l : List V} (hf : fitsE ks l = 0) : (UInt8.ofNat (nulls l)).toNat = nulls l ∧ nulls l < 2 ^ ks.length := by
  obtain ⟨hk, hl, _⟩ := fits_zero hf
  have h8 := ksOk_len hk
  have h1 := nulls_lt l
  rw [hl] at h1
  have h2 : 2 ^ ks.length ≤ 2 ^ 8 := Nat.pow_le_pow_right (by omega) (by omega)
  refine ⟨?_, h1⟩
  rw [UInt8.toNat_ofNat']
  omega
theorem read_row {ks : List UInt8} {l : List V} (hf : fitsE ks l = 0) (ho : ∀ v ∈ l, v.ok) (r : List UInt8) : readK ks (nulls l) (rBody l ++ r) = some (l, r) := by
  obtain ⟨hk, hl, hr, hoff, _⟩ := fits_zero hf
  rw [nulls_C]
  exact readK_back ks l r hl hr ho hoff
theorem row_back {ks : List UInt8} {l : List V} (hf : fitsE ks l = 0) (ho : ∀ v ∈ l, v.ok) : rRow ks (rowL l) = (0, l) := by
  obtain ⟨hk, hl, hr, hoff, h200⟩ := fits_zero hf
  obtain ⟨hb, hlt⟩ := nulls_byte hf
  have h := read_row hf ho []
  rw [List.append_nil] at h
  have hlen := rowL_len l
  rw [show (rowL l).length = (rBody l).length + 1 from rfl] at hlen
  unfold rRow rowL
  rw [hk, if_pos rfl]
  simp only
  rw [if_neg (by rw [hb]; omega), hb, h]
theorem row_more {ks : List UInt8} {l : List V} (hf : fitsE ks l = 0) (ho : ∀ v ∈ l, v.ok) {t : List UInt8} (ht : t ≠ []) : rRow ks (rowL l ++ t) = (3, []) := by
  obtain ⟨hk, hl, hr, hoff, h200⟩ := fits_zero hf
  obtain ⟨hb, hlt⟩ := nulls_byte hf
  have h := read_row hf ho t
  unfold rRow
  rw [show rowL l ++ t = UInt8.ofNat (nulls l) :: (rBody l ++ t) from rfl, hk, if_pos rfl]
  simp only
  split
  · rfl
  · rw [hb, h]
    cases t with
    | nil => exact absurd rfl ht
    | cons a t => rfl
theorem row_cut {ks : List UInt8} {l : List V} (hf : fitsE ks l = 0) (ho : ∀ v ∈ l, v.ok) {j : Nat} (hj : j < (rowL l).length) : rRow ks ((rowL l).take j) = (3, []) := by
  obtain ⟨hk, hl, hr, hoff, h200⟩ := fits_zero hf
  obtain ⟨hb, hlt⟩ := nulls_byte hf
  unfold rRow
  rw [hk, if_pos rfl]
  cases j with
  | zero => rfl
  | succ j =>
    rw [show (rowL l).take (j + 1) = UInt8.ofNat (nulls l) :: (rBody l).take j from rfl]
    simp only
    split
    · rfl
    · rw [hb]
      cases hx : readK ks (nulls l) ((rBody l).take j) with
      | none => rfl
      | some p =>
        obtain ⟨l', r'⟩ := p
        cases r' with
        | cons a r' => rfl
        | nil =>
          exfalso
          have h1 := readK_app ks (nulls l) _ _ _ ((rBody l).drop j) hx
          rw [List.take_append_drop] at h1
          have h2 := read_row hf ho []
          rw [List.append_nil, h1] at h2
          injection h2 with h2
          injection h2 with _ h2
          rw [List.nil_append] at h2
          have h3 := congrArg List.length h2
          rw [List.length_drop] at h3
          change j + 1 < (rBody l).length + 1 at hj
          simp at h3
          omega
end Go.Proofs.YtfabcnbblhadnaaDoor.Mem
