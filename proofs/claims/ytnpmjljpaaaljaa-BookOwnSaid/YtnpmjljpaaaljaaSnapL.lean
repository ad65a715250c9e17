/- lapidaryref10.Least. -/
import Derived.Test.YtnpmjljpaaaljaaSnapR
namespace Go.Proofs.Ytnpmjljpaaaljaa.Clg
open Go.ChangeMaps Go.MapKept Go.RowKit Go.Proofs.Ytnpmjljpaaaljaa.Nums Go.Proofs.Ytnpmjljpaaaljaa.Mem
set_option linter.unusedVariables false
set_option linter.unusedSimpArgs false
set_option maxRecDepth 100000
def minTo (R : List Nat) (x k : Nat) : Nat := if k = 0 then x else R.headD x
set_option maxHeartbeats 1000000 in
theorem least_any {w : World} {own xmax : Nat} {R : List Nat} {A : Option Addr} {c : Nat} (hs : SlU w A c R) (hR : R.Pairwise (· < ·)) (hx : ∀ y ∈ R, y < xmax) :
    Calls Try.prog 47 #[.agg #[.int .u64 (own : Int), .int .u64 (xmax : Int), .slice A R.length c]] w fun e w' => e = .returned (.int .u64 (R.headD xmax : Int)) ∧ Below w.heap.size w w' := by
  obtain ⟨n, hn⟩ : ∃ n, R.length = n := ⟨_, rfl⟩
  obtain ⟨W2, hW2⟩ : ∃ W2, W2 = w.alloc (.cells #[.int .u64 (own : Int), .int .u64 (xmax : Int), .slice A R.length c] 52) := ⟨_, rfl⟩
  have HB2 : Hid (Below w.heap.size w W2) := Lib.hid (by rw [hW2]; exact bel_alloc _ _)
  have HS2 : Hid (SlU W2 A c R) := Lib.hid (by rw [hW2]; exact Sl.on hs (bel_alloc _ _))
  have HW := Lib.hid hW2
  have HRS := Lib.hid hR
  have HX := Lib.hid hx
  have HN := Lib.hid hn
  have hle := hs.le
  have hcap := hs.cap
  unfold maxLen at hcap
  rw [hn] at HW hle
  rw [hn]
  clear hs hR hx hW2 hn
  go_enter Try.func47, Try.ntmps47
  go_wp2_with fail
  rw [← HW.out]
  go_loop [3, 11] (fun v i => ∃ k : Nat, k ≤ n ∧ i = .int .i64 k ∧ v = .int .u64 (minTo R xmax k : Int)) (fun _ i => n - (intOf i).toNat)
  case atStart => exact ⟨0, by omega, rfl, rfl⟩
  case round =>
    obtain ⟨k, hk, rfl, rfl⟩ := hrel
    by_cases hlt : k < n
    · have hlt' : (k : Int) < n := by omega
      obtain ⟨y, hy⟩ : ∃ y, R[k]? = some y := ⟨_, List.getElem?_eq_getElem (by have := HN.out; omega)⟩
      obtain ⟨ad, rfl, x0⟩ := HS2.out.at_ hy
      by_cases hk0 : k = 0
      · subst hk0
        have hyx : y < xmax := HX.out y (List.mem_of_getElem? hy)
        have hm : minTo R xmax 0 = xmax := if_pos rfl
        have hm1 : minTo R xmax 1 = y := by
          unfold minTo
          rw [if_neg (by omega)]
          cases hq : R with
          | nil => rw [hq] at hy; cases hy
          | cons a l => rw [hq] at hy; simp at hy; subst hy; rfl
        rw [hm]
        have HM1 := Lib.hid hm1
        have x0 : W2.cell? ad = some (.int .u64 (y : Int)) := x0
        clear hy hm hm1
        go_wp2_with fail
        go_round
        case rel => exact ⟨1, by omega, rfl, by rw [HM1.out]⟩
        case measure => simp [intOf]; omega
      · have hge : ¬ y < minTo R xmax k := by
          unfold minTo
          rw [if_neg hk0]
          obtain ⟨z, hz⟩ : ∃ z, R[0]? = some z := ⟨_, List.getElem?_eq_getElem (by have := HN.out; omega)⟩
          have := rise_at HRS.out hz hy (by omega)
          cases hq : R with
          | nil => rw [hq] at hz; cases hz
          | cons a l => rw [hq] at hz; simp at hz; subst hz; show ¬ y < a; omega
        have hm1 : minTo R xmax (k + 1) = minTo R xmax k := by unfold minTo; rw [if_neg (by omega), if_neg hk0]
        have HM1 := Lib.hid hm1
        have hge' : decide (y < minTo R xmax k) = false := by simpa using hge
        generalize minTo R xmax k = m at *
        clear hy hm1 hk0 hge
        go_wp2_with fail
        go_round
        case rel => exact ⟨k + 1, by omega, by go_num, by rw [HM1.out]⟩
        case measure => simp [intOf]; omega
    · obtain rfl : k = n := by omega
      have hm1 : minTo R xmax k = R.headD xmax := by
        unfold minTo
        split
        · have h0 : R = [] := List.eq_nil_of_length_eq_zero (by have := HN.out; omega)
          rw [h0]; rfl
        · rfl
      rw [hm1]
      clear hm1
      go_wp2_with fail
      go_ret
      exact ⟨rfl, HB2.out⟩
end Go.Proofs.Ytnpmjljpaaaljaa.Clg
