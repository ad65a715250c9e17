/- Transactions as a list of states (1 runs, 2 committed, 3 aborted): those that run; lists that rise. No program is named here. -/
import Derived.IntWalk
import Derived.RowKit
namespace Go.Proofs.Ytnpmjljpaaaljaa.Clg
set_option linter.unusedVariables false
set_option linter.unusedSimpArgs false
/-- the numbers, from f on, of the places that have a 1 -/
def runs (f : Nat) : List Nat → List Nat
  | [] => []
  | s :: S => if s = 1 then f :: runs (f + 1) S else runs (f + 1) S
def stOf (f : Nat) (S : List Nat) (x : Nat) : Nat := if f ≤ x then S.getD (x - f) 0 else 0
theorem runs_snoc (s : Nat) : ∀ (S : List Nat) (f : Nat), runs f (S ++ [s]) = runs f S ++ (if s = 1 then [f + S.length] else [])
  | [], f => by simp [runs]
  | a :: S, f => by
    have ih := runs_snoc s S (f + 1)
    have e : f + 1 + S.length = f + (S.length + 1) := by omega
    show (if a = 1 then f :: runs (f + 1) (S ++ [s]) else runs (f + 1) (S ++ [s])) = (if a = 1 then f :: runs (f + 1) S else runs (f + 1) S) ++ _
    rw [ih, e, List.length_cons]
    split <;> simp
theorem runs_mem {x : Nat} : ∀ {S : List Nat} {f : Nat}, x ∈ runs f S ↔ f ≤ x ∧ S[x - f]? = some 1
  | [], f => by simp [runs]
  | a :: S, f => by
    have ih := runs_mem (x := x) (S := S) (f := f + 1)
    have h : runs f (a :: S) = if a = 1 then f :: runs (f + 1) S else runs (f + 1) S := rfl
    by_cases hx : x = f
    · subst hx
      have hn : ¬ x ∈ runs (x + 1) S := by rw [ih]; omega
      rw [h]
      by_cases ha : a = 1
      · simp [ha]
      · simp [ha, hn]
    · by_cases hlt : f < x
      · have e : x - f = (x - (f + 1)) + 1 := by omega
        rw [h, e, List.getElem?_cons_succ]
        split
        · rw [List.mem_cons, ih]
          constructor
          · rintro (h1 | ⟨h1, h2⟩)
            · exact absurd h1 hx
            · exact ⟨by omega, h2⟩
          · rintro ⟨h1, h2⟩
            exact .inr ⟨by omega, h2⟩
        · rw [ih]
          exact ⟨fun ⟨h1, h2⟩ => ⟨by omega, h2⟩, fun ⟨h1, h2⟩ => ⟨by omega, h2⟩⟩
      · have h1 : ¬ f ≤ x := by omega
        have h2 : ¬ x ∈ runs (f + 1) S := by rw [ih]; omega
        rw [h]
        split
        · simp [hx, h1, h2]
        · simp [h1, h2]
theorem runs_ge {f : Nat} {S : List Nat} {x : Nat} (h : x ∈ runs f S) : f ≤ x ∧ x < f + S.length := by
  obtain ⟨h1, h2⟩ := runs_mem.1 h
  have := (List.getElem?_eq_some_iff.1 h2).1
  omega
theorem runs_sorted : ∀ (S : List Nat) (f : Nat), (runs f S).Pairwise (· < ·)
  | [], f => List.Pairwise.nil
  | a :: S, f => by
    have ih := runs_sorted S (f + 1)
    show (if a = 1 then f :: runs (f + 1) S else runs (f + 1) S).Pairwise _
    split
    · exact List.pairwise_cons.2 ⟨fun x hx => by have := (runs_ge hx).1; omega, ih⟩
    · exact ih
theorem runs_len : ∀ (S : List Nat) (f : Nat), (runs f S).length ≤ S.length
  | [], f => Nat.le_refl _
  | a :: S, f => by
    have ih := runs_len S (f + 1)
    show (if a = 1 then f :: runs (f + 1) S else runs (f + 1) S).length ≤ _
    split <;> simp <;> omega
/-- lists that rise and have the same members are the same -/
theorem ext_rise : ∀ {L K : List Nat}, L.Pairwise (· < ·) → K.Pairwise (· < ·) → (∀ x, x ∈ L ↔ x ∈ K) → L = K
  | [], [], _, _, _ => rfl
  | [], b :: K, _, _, h => by have := (h b).2 (by simp); simp at this
  | a :: L, [], _, _, h => by have := (h a).1 (by simp); simp at this
  | a :: L, b :: K, hL, hK, h => by
    obtain ⟨h1, h2⟩ := List.pairwise_cons.1 hL
    obtain ⟨k1, k2⟩ := List.pairwise_cons.1 hK
    have e : a = b := by
      have ha := (h a).1 (by simp)
      have hb := (h b).2 (by simp)
      rcases List.mem_cons.1 ha with e | ha
      · exact e
      rcases List.mem_cons.1 hb with e | hb
      · exact e.symm
      have := k1 a ha
      have := h1 b hb
      omega
    subst e
    congr 1
    refine ext_rise h2 k2 fun x => ⟨fun hx => ?_, fun hx => ?_⟩
    · have := h1 x hx
      rcases List.mem_cons.1 ((h x).1 (List.mem_cons_of_mem _ hx)) with e | h'
      · omega
      · exact h'
    · have := k1 x hx
      rcases List.mem_cons.1 ((h x).2 (List.mem_cons_of_mem _ hx)) with e | h'
      · omega
      · exact h'
theorem rise_at {R : List Nat} (h : R.Pairwise (· < ·)) {i j a b : Nat} (hi : R[i]? = some a) (hj : R[j]? = some b) (hij : i < j) : a < b := by
  obtain ⟨h1, rfl⟩ := List.getElem?_eq_some_iff.1 hi
  obtain ⟨h2, rfl⟩ := List.getElem?_eq_some_iff.1 hj
  exact List.pairwise_iff_getElem.1 h i j h1 h2 hij
/-- one goes out of a list that rises -/
theorem rise_out {R : List Nat} (h : R.Pairwise (· < ·)) {k x : Nat} (hk : R[k]? = some x) : (R.take k ++ R.drop (k + 1)).Pairwise (· < ·) ∧ ∀ y, y ∈ R.take k ++ R.drop (k + 1) ↔ y ∈ R ∧ y ≠ x := by
  refine ⟨?_, fun y => ?_⟩
  · have : (R.take k ++ R.drop (k + 1)).Sublist R := by
      have h1 : (R.drop (k + 1)).Sublist (R.drop k) := by rw [← List.drop_drop]; exact List.drop_sublist _ _
      have h2 := (List.Sublist.refl (R.take k)).append h1
      rwa [List.take_append_drop] at h2
    exact h.sublist this
  · rw [List.mem_append, List.mem_iff_getElem?, List.mem_iff_getElem?, List.mem_iff_getElem?]
    constructor
    · rintro (⟨i, hi⟩ | ⟨i, hi⟩)
      · rw [List.getElem?_take] at hi
        split at hi
        · exact ⟨⟨i, hi⟩, by have := rise_at h hi hk (by assumption); omega⟩
        · cases hi
      · rw [List.getElem?_drop] at hi
        exact ⟨⟨_, hi⟩, by have := rise_at h hk hi (by omega); omega⟩
    · rintro ⟨⟨i, hi⟩, hne⟩
      rcases Nat.lt_trichotomy i k with h1 | h1 | h1
      · exact .inl ⟨i, by rw [List.getElem?_take, if_pos h1]; exact hi⟩
      · subst h1
        rw [hk] at hi
        injection hi with hi
        exact absurd hi.symm hne
      · exact .inr ⟨i - (k + 1), by rw [List.getElem?_drop, show k + 1 + (i - (k + 1)) = i by omega]; exact hi⟩
/-- one that runs is over -/
theorem runs_set {f : Nat} {S : List Nat} {x s k : Nat} (hs : s ≠ 1) (hx : stOf f S x = 1) (hk : (runs f S)[k]? = some x) : runs f (S.set (x - f) s) = (runs f S).take k ++ (runs f S).drop (k + 1) := by
  obtain ⟨h1, h2⟩ := rise_out (runs_sorted S f) hk
  refine ext_rise (runs_sorted _ _) h1 fun y => ?_
  rw [h2, runs_mem, runs_mem]
  unfold stOf at hx
  split at hx
  · rename_i hfx
    by_cases hyx : y = x
    · subst hyx
      rw [List.getElem?_set, if_pos rfl]
      constructor
      · rintro ⟨_, h4⟩
        split at h4
        · injection h4 with h4; exact absurd h4 hs
        · cases h4
      · rintro ⟨_, h4⟩; exact absurd rfl h4
    · constructor
      · rintro ⟨h3, h4⟩
        rw [List.getElem?_set, if_neg (by omega)] at h4
        exact ⟨⟨h3, h4⟩, hyx⟩
      · rintro ⟨⟨h3, h4⟩, _⟩
        exact ⟨h3, by rw [List.getElem?_set, if_neg (by omega)]; exact h4⟩
  · cases hx
theorem st_runs {f : Nat} {S : List Nat} {x : Nat} : x ∈ runs f S ↔ stOf f S x = 1 := by
  rw [runs_mem]
  unfold stOf
  split
  · rename_i h
    rw [List.getD_eq_getElem?_getD]
    cases hq : S[x - f]? with
    | none => simp
    | some v => simp [h]
  · rename_i h
    exact ⟨fun h' => absurd h'.1 h, fun h' => by cases h'⟩
theorem st_set {f : Nat} {S : List Nat} {x : Nat} (hx : stOf f S x ≠ 0) (s y : Nat) : stOf f (S.set (x - f) s) y = if y = x then s else stOf f S y := by
  unfold stOf at hx ⊢
  split at hx
  · rename_i hfx
    rw [List.getD_eq_getElem?_getD] at hx
    have hl : x - f < S.length := by
      rcases Nat.lt_or_ge (x - f) S.length with h | h
      · exact h
      · rw [List.getElem?_eq_none h] at hx; exact absurd rfl hx
    by_cases hy : y = x
    · subst hy
      rw [if_pos hfx, if_pos rfl, List.getD_eq_getElem?_getD, List.getElem?_set, if_pos rfl, if_pos hl]
      rfl
    · rw [if_neg hy]
      split
      · rw [List.getD_eq_getElem?_getD, List.getElem?_set, if_neg (by omega), List.getD_eq_getElem?_getD]
      · rfl
  · exact absurd rfl hx
theorem st_snoc {f : Nat} {S : List Nat} {s y : Nat} : stOf f (S ++ [s]) y = if y = f + S.length then s else stOf f S y := by
  unfold stOf
  split
  · rename_i h
    rw [List.getD_eq_getElem?_getD, List.getD_eq_getElem?_getD]
    by_cases hy : y = f + S.length
    · rw [if_pos hy, hy, show f + S.length - f = S.length by omega, List.getElem?_append_right (Nat.le_refl _), Nat.sub_self]
      rfl
    · rw [if_neg hy]
      rcases Nat.lt_or_ge (y - f) S.length with h' | h'
      · rw [List.getElem?_append_left h']
      · rw [List.getElem?_append_right h', List.getElem?_eq_none (show [s].length ≤ _ by simp; omega), List.getElem?_eq_none h']
  · rename_i h
    rw [if_neg (by omega)]
theorem st_out {f : Nat} {S : List Nat} {x : Nat} (h : x < f ∨ f + S.length ≤ x) : stOf f S x = 0 := by
  unfold stOf
  split
  · rw [List.getD_eq_getElem?_getD, List.getElem?_eq_none (by omega)]
    rfl
  · rfl
theorem st_in {f : Nat} {S : List Nat} {x : Nat} (h : stOf f S x ≠ 0) : f ≤ x ∧ x < f + S.length := by
  rcases Nat.lt_or_ge x f with h1 | h1
  · exact absurd (st_out (.inl h1)) h
  · rcases Nat.lt_or_ge x (f + S.length) with h2 | h2
    · exact ⟨h1, h2⟩
    · exact absurd (st_out (.inr h2)) h
theorem st_nil (f x : Nat) : stOf f [] x = 0 := st_out (by simp; omega)
/-- how many of those ahead are less -/
def bs (x : Nat) : List Nat → Nat
  | [] => 0
  | y :: R => if y < x then bs x R + 1 else 0
theorem bs_eq {x : Nat} : ∀ {R : List Nat} {i : Nat}, i ≤ R.length → (∀ k y, k < i → R[k]? = some y → y < x) → (∀ y, R[i]? = some y → x ≤ y) → bs x R = i
  | [], i, hi, _, _ => by simp at hi; subst hi; rfl
  | y :: R, i, hi, h1, h2 => by
    show (if y < x then bs x R + 1 else 0) = i
    cases i with
    | zero => rw [if_neg (by have := h2 y (by simp); omega)]
    | succ i =>
      rw [if_pos (h1 0 y (by omega) (by simp)), bs_eq (by simpa using hi) (fun k z hk hz => h1 (k + 1) z (by omega) (by simpa using hz)) (fun z hz => h2 z (by simpa using hz))]
theorem bs_le (x : Nat) : ∀ (R : List Nat), bs x R ≤ R.length
  | [] => Nat.le_refl _
  | y :: R => by
    have := bs_le x R
    show (if y < x then bs x R + 1 else 0) ≤ _
    split <;> simp <;> omega
theorem bs_at {x : Nat} : ∀ {R : List Nat}, R.Pairwise (· < ·) → x ∈ R → R[bs x R]? = some x
  | [], _, h => by simp at h
  | y :: R, hR, h => by
    obtain ⟨h1, h2⟩ := List.pairwise_cons.1 hR
    show (y :: R)[if y < x then bs x R + 1 else 0]? = _
    rcases List.mem_cons.1 h with e | h
    · subst e; rw [if_neg (by omega)]; rfl
    · rw [if_pos (h1 x h), List.getElem?_cons_succ]
      exact bs_at h2 h
theorem bs_not {x : Nat} : ∀ {R : List Nat}, R.Pairwise (· < ·) → ¬ x ∈ R → R[bs x R]? ≠ some x := fun _ h e => h (List.mem_of_getElem? e)
end Go.Proofs.Ytnpmjljpaaaljaa.Clg
