/- package slices at numbers of 64 bits: BinarySearch. -/
import Derived.Test.YtnpmjljpaaaljaaClogA
namespace Go.Proofs.Ytnpmjljpaaaljaa.Clg
open Go.RowKit Go.Proofs.Ytnpmjljpaaaljaa.Nums Go.Proofs.Ytnpmjljpaaaljaa.Mem
set_option linter.unusedVariables false
set_option linter.unusedSimpArgs false
set_option maxRecDepth 100000
def Half (x : Nat) (R : List Nat) (p q : Nat) : Prop := (∀ k y, k < p → R[k]? = some y → y < x) ∧ (∀ k y, q ≤ k → R[k]? = some y → x ≤ y)
theorem half_up {x : Nat} {R : List Nat} {p q h y : Nat} (H : Half x R p q) (hR : R.Pairwise (· < ·)) (hy : R[h]? = some y) (hlt : y < x) : Half x R (h + 1) q := by
  refine ⟨fun k z hk hz => ?_, H.2⟩
  rcases Nat.lt_or_ge k h with h1 | h1
  · have := rise_at hR hz hy h1; omega
  · obtain rfl : k = h := by omega
    rw [hy] at hz; injection hz with hz; omega
theorem half_down {x : Nat} {R : List Nat} {p q h y : Nat} (H : Half x R p q) (hR : R.Pairwise (· < ·)) (hy : R[h]? = some y) (hlt : ¬ y < x) : Half x R p h := by
  refine ⟨H.1, fun k z hk hz => ?_⟩
  rcases Nat.eq_or_lt_of_le hk with h1 | h1
  · subst h1
    rw [hy] at hz; injection hz with hz; omega
  · have := rise_at hR hy hz h1; omega
theorem half_end {x : Nat} {R : List Nat} {p : Nat} (H : Half x R p p) (hp : p ≤ R.length) : bs x R = p := bs_eq hp H.1 fun y hy => H.2 p y (Nat.le_refl _) hy
theorem found_yes {x : Nat} {R : List Nat} {p : Nat} (h : R[p]? = some x) : foundB x R = true := by
  unfold foundB
  rw [List.contains_iff_mem]
  exact List.mem_of_getElem? h
theorem found_no {x : Nat} {R : List Nat} {p : Nat} (H : Half x R p p) (hR : R.Pairwise (· < ·)) (h : R[p]? ≠ some x) : foundB x R = false := by
  unfold foundB
  rw [Bool.eq_false_iff, Ne, List.contains_iff_mem]
  intro hm
  obtain ⟨k, hk⟩ := List.mem_iff_getElem?.1 hm
  rcases Nat.lt_trichotomy k p with h1 | h1 | h1
  · have := H.1 k x h1 hk; omega
  · subst h1; exact h hk
  · obtain ⟨y, hy⟩ : ∃ y, R[p]? = some y := ⟨_, List.getElem?_eq_getElem (by have := (List.getElem?_eq_some_iff.1 hk).1; omega)⟩
    have h2 := H.2 p y (Nat.le_refl _) hy
    have h3 := rise_at hR hy hk h1
    omega
set_option maxHeartbeats 1000000 in
theorem bs_any {w : World} {A : Option Addr} {c : Nat} {R : List Nat} (hs : SlU w A c R) (hR : R.Pairwise (· < ·)) (hbig : R.length < 4611686018427387904) (x : Nat) :
    Calls Try.prog 55 #[.slice A R.length c, .int .u64 (x : Int)] w fun e w' => e = .returned (.tuple #[.int .i64 ((bs x R : Nat) : Int), .bool (foundB x R)]) ∧ w = w' := by
  have HS := Lib.hid hs
  have HR := Lib.hid hR
  have hle := hs.le
  have hcap := hs.cap
  unfold maxLen at hcap
  obtain ⟨n, hn⟩ : ∃ n, R.length = n := ⟨_, rfl⟩
  have HN := Lib.hid hn
  rw [hn] at hle hbig
  rw [hn]
  clear hs hR hn
  go_enter Try.func55, Try.ntmps55
  go_wp2_with fail
  go_loop [7, 8] (fun i j => ∃ p q : Nat, p ≤ q ∧ q ≤ n ∧ i = .int .i64 p ∧ j = .int .i64 q ∧ Half x R p q) (fun i j => (intOf j).toNat - (intOf i).toNat)
  case atStart => exact ⟨0, n, by omega, by omega, rfl, rfl, fun k y hk => absurd hk (by omega), fun k y hk hy => by have := (List.getElem?_eq_some_iff.1 hy).1; have := HN.out; omega⟩
  case round =>
    obtain ⟨p, q, hpq, hq, rfl, rfl, hh⟩ := hrel
    have HH := Lib.hid hh
    clear hh
    by_cases hlt : p < q
    · obtain ⟨y, hy⟩ : ∃ y, R[(p + q) / 2]? = some y := ⟨_, List.getElem?_eq_getElem (by have := HN.out; omega)⟩
      obtain ⟨ad, rfl, hc⟩ := HS.out.at_ hy
      have HY := Lib.hid hy
      clear hy
      by_cases hyx : y < x
      · have hyx' : (y : Int) < x := by omega
        go_wp2_with ((go_at_call 79; refine (less_any _ _ _).mono ?_; rintro e w' ⟨rfl, rfl⟩))
        go_round
        case rel => exact ⟨(p + q) / 2 + 1, q, by omega, hq, by rw [show ((p : Int) + (q : Int)) / 2 + 1 = (((p + q) / 2 + 1 : Nat) : Int) by omega], rfl, half_up HH.out HR.out HY.out hyx⟩
        case measure => simp [intOf]; omega
      · have hyx' : ¬ (y : Int) < x := by omega
        go_wp2_with ((go_at_call 79; refine (less_any _ _ _).mono ?_; rintro e w' ⟨rfl, rfl⟩))
        go_round
        case rel => exact ⟨p, (p + q) / 2, by omega, by omega, rfl, by rw [show ((p : Int) + (q : Int)) / 2 = (((p + q) / 2 : Nat) : Int) by omega], half_down HH.out HR.out HY.out hyx⟩
        case measure => simp [intOf]; omega
    · obtain rfl : p = q := by omega
      have HE : Hid (bs x R = p) := Lib.hid (half_end HH.out (by have := HN.out; omega))
      by_cases hpn : p < n
      · obtain ⟨y, hy⟩ : ∃ y, R[p]? = some y := ⟨_, List.getElem?_eq_getElem (by have := HN.out; omega)⟩
        obtain ⟨ad, rfl, hc⟩ := HS.out.at_ hy
        have hpn' : (p : Int) < n := by omega
        by_cases hyx : y = x
        · subst hyx
          have HF : Hid (foundB y R = true) := Lib.hid (found_yes hy)
          clear hy
          go_wp2_with ((go_at_call 80; refine (isnan_any _ _).mono ?_; rintro e w' ⟨rfl, rfl⟩))
          go_ret2
          exact ⟨by rw [HE.out, HF.out]; rfl, rfl⟩
        · have HF : Hid (foundB x R = false) := Lib.hid (found_no HH.out HR.out (by rw [hy]; intro e; injection e with e; exact hyx e))
          have hyx' : ((y : Int) == (x : Int)) = false := by rw [beq_eq_false_iff_ne]; omega
          clear hy
          go_wp2_with ((go_at_call 80; refine (isnan_any _ _).mono ?_; rintro e w' ⟨rfl, rfl⟩))
          go_ret2
          exact ⟨by rw [HE.out, HF.out]; rfl, rfl⟩
      · have HF : Hid (foundB x R = false) := Lib.hid (found_no HH.out HR.out (by rw [List.getElem?_eq_none (by have := HN.out; omega)]; simp))
        have hpn' : ¬ (p : Int) < n := by omega
        go_wp2_with fail
        go_ret2
        exact ⟨by rw [HE.out, HF.out]; rfl, rfl⟩
end Go.Proofs.Ytnpmjljpaaaljaa.Clg
