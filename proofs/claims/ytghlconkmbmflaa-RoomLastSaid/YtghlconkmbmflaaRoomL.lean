/- One map alone; what is found in rooms. -/
import Derived.Test.YtghlconkmbmflaaLRoomPlays
namespace Go.Proofs.Ytghlconkmbmflaa.Room
open Go.RowKit Go.Proofs.Ytghlconkmbmflaa.Nums Go.Proofs.Ytghlconkmbmflaa.Mem
set_option linter.unusedVariables false
set_option linter.unusedSimpArgs false
set_option maxRecDepth 100000
def One (w : World) (base P : Nat) (L : List Int) : Prop := base ≤ w.heap.size ∧ ∃ A c, MapAt w base 49 P A c L
section
variable {w w' : World} {base P : Nat} {L : List Int}
theorem one_new (w : World) (hB : base ≤ w.heap.size) : One (w.alloc (.cells #[.slice none 0 0] 49)) base w.heap.size [] := by
  have h0 := map_new w 49
  exact ⟨by rw [size_alloc]; omega, none, 0, h0.blk, World.ownsRow_nil _ _ _ _, hB⟩
theorem set_one (h : One w base P L) (hL : L.length ≤ 256) (p r : Int) :
    Calls Try.prog 9 #[.pointer (some ⟨P, 0, none⟩), .int .i64 p, .int .i64 r] w fun e w' => e = .returned (.int .i64 (setR L p r).1) ∧ One w' base P (setR L p r).2 ∧ Below base w w' := by
  obtain ⟨hB, A, c, hM⟩ := h
  refine (set_any hM hL hB p r).mono ?_
  rintro e w' ⟨rfl, A1, c1, hM1, hF⟩
  exact ⟨rfl, ⟨Nat.le_trans hB hF.size, A1, c1, hM1⟩, hF.below hB hM.ge hM.own_ge⟩
theorem find_one (h : One w base P L) (need : Int) :
    Calls Try.prog 11 #[.pointer (some ⟨P, 0, none⟩), .int .i64 need] w fun e w' => e = .returned (.tuple #[.int .i64 (findR L need).1, .bool (findR L need).2]) ∧ w = w' := by
  obtain ⟨hB, A, c, hM⟩ := h
  exact find_any hM need
theorem get_one (h : One w base P L) (p : Int) :
    Calls Try.prog 13 #[.pointer (some ⟨P, 0, none⟩), .int .i64 p] w fun e w' => e = .returned (.int .i64 (getR L p)) ∧ w = w' := by
  obtain ⟨hB, A, c, hM⟩ := h
  exact get_any hM p
theorem pages_one (h : One w base P L) :
    Calls Try.prog 15 #[.pointer (some ⟨P, 0, none⟩)] w fun e w' => e = .returned (.int .i64 L.length) ∧ w = w' := by
  obtain ⟨hB, A, c, hM⟩ := h
  exact pages_any hM
end
theorem findAt_cases (m : Int) : ∀ (L : List Int) (k : Nat), (∃ j x, findAt m L k = (((k + j : Nat) : Int), true) ∧ L[j]? = some x ∧ m ≤ x ∧ ∀ i, i < j → ∀ y, L[i]? = some y → y < m) ∨ (findAt m L k = (0, false) ∧ ∀ y ∈ L, y < m)
  | [], k => .inr ⟨rfl, fun y hy => by cases hy⟩
  | r :: l, k => by
    by_cases h : m ≤ r
    · refine .inl ⟨0, r, ?_, rfl, h, fun i hi => absurd hi (by omega)⟩
      show (if m ≤ r then ((k : Int), true) else _) = _
      rw [if_pos h]
      rfl
    · have e : findAt m (r :: l) k = findAt m l (k + 1) := if_neg h
      rcases findAt_cases m l (k + 1) with ⟨j, x, h1, h2, h3, h4⟩ | ⟨h1, h2⟩
      · refine .inl ⟨j + 1, x, by rw [e, h1]; congr 2; omega, by simpa using h2, h3, fun i hi y hy => ?_⟩
        cases i with
        | zero => simp at hy; omega
        | succ i => exact h4 i (by omega) y (by simpa using hy)
      · refine .inr ⟨by rw [e, h1], fun y hy => ?_⟩
        rcases List.mem_cons.1 hy with rfl | hy
        · omega
        · exact h2 y hy
theorem findAt_none {m : Int} {L : List Int} (h : ∀ y ∈ L, y < m) (k : Nat) : findAt m L k = (0, false) := by
  rcases findAt_cases m L k with ⟨j, x, h1, h2, h3, h4⟩ | ⟨h1, h2⟩
  · have := h x (List.mem_of_getElem? h2)
    omega
  · exact h1
theorem findAt_first {m : Int} {L : List Int} {j : Nat} {x : Int} (hj : L[j]? = some x) (hx : m ≤ x) (hl : ∀ i, i < j → ∀ y, L[i]? = some y → y < m) : findAt m L 0 = ((j : Int), true) := by
  rcases findAt_cases m L 0 with ⟨j', x', h1, h2, h3, h4⟩ | ⟨h1, h2⟩
  · have : j' = j := by
      rcases Nat.lt_trichotomy j' j with h | h | h
      · have := hl j' h x' h2; omega
      · exact h
      · have := h4 j h x hj; omega
    rw [h1, this, Nat.zero_add]
  · have := h2 x (List.mem_of_getElem? hj)
    omega
theorem findR_spec {L : List Int} (hL : ∀ y ∈ L, 0 ≤ y) (need : Int) : (∃ (j : Nat) (x : Int), findR L need = ((j : Int), true) ∧ L[j]? = some x ∧ need ≤ x ∧ ∀ i, i < j → ∀ y, L[i]? = some y → y < need) ∨ (findR L need = (0, false) ∧ ∀ y ∈ L, y < need) := by
  unfold findR
  rcases findAt_cases (max need 0) L 0 with ⟨j, x, h1, h2, h3, h4⟩ | ⟨h1, h2⟩
  · refine .inl ⟨j, x, by rw [h1, Nat.zero_add], h2, by omega, fun i hi y hy => ?_⟩
    have a := h4 i hi y hy
    have b := hL y (List.mem_of_getElem? hy)
    omega
  · refine .inr ⟨h1, fun y hy => ?_⟩
    have a := h2 y hy
    have b := hL y hy
    omega
theorem getR_at {L : List Int} {k : Nat} {x : Int} (h : L[k]? = some x) : getR L k = x := by
  have hk := (List.getElem?_eq_some_iff.1 h).1
  unfold getR
  rw [if_neg (by omega), Int.toNat_natCast, List.getD_eq_getElem?_getD, h]
  rfl
theorem setR_app {L : List Int} {k : Nat} {r x : Int} (hk : L.length = k) (hk2 : k < 256) (hx : clamp r = x) : setR L k r = (0, L ++ [x]) := by
  unfold setR
  rw [if_neg (by omega), if_neg (by omega), if_pos (by omega), hx]
theorem setR_at {L : List Int} {k : Nat} {r x : Int} (hk : k < L.length) (hk2 : k < 256) (hx : clamp r = x) : setR L k r = (0, L.set k x) := by
  unfold setR
  rw [if_neg (by omega), if_neg (by omega), if_neg (by omega), hx, Int.toNat_natCast]
theorem clamp_in {r : Int} (h0 : -1 ≤ r) (h1 : r ≤ 512) : clamp r = r := by unfold clamp; omega
end Go.Proofs.Ytghlconkmbmflaa.Room
