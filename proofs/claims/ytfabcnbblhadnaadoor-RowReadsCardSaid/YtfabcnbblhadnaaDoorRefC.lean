/- ref04.Right, ref04.Bytes. -/
import Derived.Test.YtfabcnbblhadnaaDoorRowB
import Derived.Test.YtfabcnbblhadnaaDoorRefB
namespace Go.Proofs.YtfabcnbblhadnaaDoor.Mem
open Go.RowKit Go.Proofs.YtfabcnbblhadnaaDoor.Nums
open Go.Proofs.YtfabcnbblhadnaaDoor.Cell (U8 right_exact)
set_option linter.unusedVariables false
set_option linter.unusedSimpArgs false
set_option maxRecDepth 100000
theorem kOk_le {b : UInt8} : kOk b = true ↔ (¬ (b.toNat : Int) < 1 ∧ ¬ (3 : Int) < b.toNat) := by
  unfold kOk
  rw [Bool.or_eq_true, Bool.or_eq_true, beq_iff_eq, beq_iff_eq, beq_iff_eq]
  constructor
  · rintro ((rfl | rfl) | rfl) <;> decide
  · intro ⟨h1, h2⟩
    have : b.toNat = 1 ∨ b.toNat = 2 ∨ b.toNat = 3 := by omega
    rcases this with h | h | h
    · exact .inl (.inl (UInt8.toNat_inj.1 h))
    · exact .inl (.inr (UInt8.toNat_inj.1 h))
    · exact .inr (UInt8.toNat_inj.1 h)
theorem refkinds_any (ks : List UInt8) (A : Option Addr) (n c : Nat) (w : World) (hx : Sl w w.heap.size 1 A n c (u8s ks)) :
    Calls Tryd.prog 48 #[.slice A n c] w fun e w' => e = .returned (.bool (ksOk ks)) ∧ w = w' := by
  have HL := Lib.hid (len_of hx)
  have HX := Lib.hid hx
  have hcap := hx.cap
  unfold maxLen at hcap
  have hle := hx.le
  clear hx
  go_enter Tryd.func48, Tryd.ntmps48
  go_wp2_with fail
  go_loop [7] (fun i => ∃ k : Nat, k ≤ n ∧ i = .int .i64 k ∧ (ks.take k).all kOk = true) (fun i => n - (intOf i).toNat)
  case atStart => exact ⟨0, by omega, rfl, rfl⟩
  case round =>
    obtain ⟨k, hk, rfl, hall⟩ := hrel
    have HA := Lib.hid hall
    clear hall
    by_cases hlt : k < n
    · have hlt' : (k : Int) < n := by omega
      obtain ⟨b, hb⟩ : ∃ b, ks[k]? = some b := ⟨_, List.getElem?_eq_getElem (by rw [HL.out]; exact hlt)⟩
      obtain ⟨ad, rfl, hAt⟩ := HX.out.at_ (by omega)
      have xk := u8s_at hAt hb
      have HB := Lib.hid hb
      clear hAt hb
      by_cases hko : kOk b = true
      · have HN : Hid ((ks.take (k + 1)).all kOk = true) := Lib.hid (by rw [take_succ_of HB.out, List.all_append, HA.out]; simp [hko])
        obtain ⟨h1, h2⟩ := kOk_le.1 hko
        clear hko
        go_wp2_with fail
        go_round
        case rel => exact ⟨k + 1, by omega, by go_num, HN.out⟩
        case measure => simp [intOf]; omega
      · have HF : Hid (ksOk ks = false) := Lib.hid (by
          unfold ksOk
          have : ks.all kOk = false := by rw [List.all_eq_false]; exact ⟨b, List.mem_of_getElem? HB.out, hko⟩
          rw [this, Bool.and_false])
        by_cases h1 : (b.toNat : Int) < 1
        · clear hko
          go_wp2_with fail
          go_ret
          exact ⟨by rw [HF.out]; rfl, rfl⟩
        · have h2 : (3 : Int) < b.toNat := by
            have := mt kOk_le.2 hko
            omega
          have h1' : decide ((b.toNat : Int) < 1) = false := by simpa using h1
          clear hko h1
          go_wp2_with fail
          go_ret
          exact ⟨by rw [HF.out]; rfl, rfl⟩
    · obtain rfl : k = n := by omega
      have ht : ks.take k = ks := List.take_of_length_le (by rw [HL.out]; omega)
      rw [ht] at HA
      by_cases h1 : k < 1
      · have HF : Hid (ksOk ks = false) := Lib.hid (by unfold ksOk; rw [HL.out, decide_eq_false (by omega)]; rfl)
        obtain rfl : k = 0 := by omega
        go_wp2_with fail
        go_ret
        exact ⟨by rw [HF.out]; rfl, rfl⟩
      by_cases h8 : 8 < k
      · have HF : Hid (ksOk ks = false) := Lib.hid (by unfold ksOk; rw [HL.out, decide_eq_false (show ¬ k ≤ 8 by omega)]; simp)
        have h1' : (1 : Int) ≤ k := by omega
        have h8' : (8 : Int) < k := by omega
        have hd8 : decide ((k : Int) ≤ 8) = false := by simp; omega
        go_wp2_with fail
        go_ret
        exact ⟨by rw [HF.out, ← hd8]; rfl, rfl⟩
      · have HF : Hid (ksOk ks = true) := Lib.hid (by unfold ksOk; rw [HL.out, decide_eq_true (show 1 ≤ k by omega), decide_eq_true (show k ≤ 8 by omega), HA.out]; rfl)
        have h1' : (1 : Int) ≤ k := by omega
        have h8' : (k : Int) ≤ 8 := by omega
        go_wp2_with fail
        go_ret
        exact ⟨by rw [HF.out]; rfl, rfl⟩
end Go.Proofs.YtfabcnbblhadnaaDoor.Mem
