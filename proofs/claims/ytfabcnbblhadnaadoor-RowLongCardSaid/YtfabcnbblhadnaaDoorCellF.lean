/- Picked by program out of XCellF. -/
import Derived.Test.YtfabcnbblhadnaaDoorCellE
import Derived.Test.YtfabcnbblhadnaaDoorCellE
namespace Go.Proofs.YtfabcnbblhadnaaDoor.Cell
open Go.RowKit Go.Proofs.YtfabcnbblhadnaaDoor.Nums
set_option linter.unusedVariables false
set_option maxRecDepth 100000
/-- a rune's number by its first j bytes -/
def rv (l : List UInt8) (lead : Nat) : Nat → Int
  | 0 => 0
  | 1 => (bt l 0 : Int) - lead
  | j + 2 => rv l lead (j + 1) * 64 + ((bt l (j + 1) : Int) - 128)
def conts (l : List UInt8) (j : Nat) : Prop := ∀ t, 1 ≤ t → t < j → 128 ≤ bt l t ∧ bt l t < 192
theorem conts_one (l : List UInt8) : conts l 1 := fun t a b => by omega
theorem conts_succ {l : List UInt8} {j : Nat} (h : conts l j) (a : 128 ≤ bt l j) (b : bt l j < 192) : conts l (j + 1) := fun t c d => by
  by_cases e : t = j
  · subst e; exact ⟨a, b⟩
  · exact h t c (by omega)
theorem rv_succ (l : List UInt8) (lead : Nat) {j : Nat} (h : 1 ≤ j) : rv l lead (j + 1) = rv l lead j * 64 + ((bt l j : Int) - 128) := by
  obtain ⟨k, rfl⟩ : ∃ k, j = k + 1 := ⟨j - 1, by omega⟩
  rfl
theorem rv_bd {l : List UInt8} {lead m : Nat} (a : lead ≤ bt l 0) (b : bt l 0 < lead + m) : ∀ j, conts l (j + 1) → 0 ≤ rv l lead (j + 1) ∧ rv l lead (j + 1) < ((m * 64 ^ j : Nat) : Int)
  | 0, _ => by
    show 0 ≤ (bt l 0 : Int) - lead ∧ (bt l 0 : Int) - lead < ((m * 64 ^ 0 : Nat) : Int)
    rw [Nat.pow_zero, Nat.mul_one]; omega
  | j + 1, h => by
    have ih := rv_bd a b j (fun t c d => h t c (by omega))
    have hc := h (j + 1) (by omega) (by omega)
    show 0 ≤ rv l lead (j + 1) * 64 + ((bt l (j + 1) : Int) - 128) ∧ rv l lead (j + 1) * 64 + ((bt l (j + 1) : Int) - 128) < ((m * 64 ^ (j + 1) : Nat) : Int)
    rw [Nat.pow_succ, ← Nat.mul_assoc]
    generalize m * 64 ^ j = p at *
    generalize rv l lead (j + 1) = x at *
    omega
theorem bt_at (s : ByteArray) (i j : Nat) (h : i + j < s.size) : bt (s.data.toList.drop i) j = (s[i + j]).toNat := by
  unfold bt
  have e : s.data.toList.length = s.size := Array.length_toList
  rw [List.getD_eq_getElem?_getD, List.getElem?_drop, List.getElem?_eq_getElem (by omega)]
  rfl
theorem bt_at0 (s : ByteArray) (i : Nat) (h : i < s.size) : bt (s.data.toList.drop i) 0 = (s[i]).toNat := bt_at s i 0 h
theorem drop_more (s : ByteArray) (i k : Nat) : (s.data.toList.drop i).drop k = s.data.toList.drop (i + k) := by rw [List.drop_drop]
set_option maxHeartbeats 16000000 in
theorem valid_exact (s : ByteArray) (hs : s.size ≤ maxLen) (w : World) :
    Calls Tryd.prog 45 #[.string s] w fun e w' => e = .returned (.bool (good s.data.toList)) ∧ w = w' := by
  unfold maxLen at hs
  obtain ⟨ANS, hANS⟩ : ∃ ANS, good s.data.toList = ANS := ⟨_, rfl⟩
  rw [hANS]
  have HANS := Lib.hid hANS
  clear hANS
  go_enter Tryd.func45, Tryd.ntmps45
  go_wp2_with fail
  go_loop [3] (fun v => ∃ i : Nat, i ≤ s.size ∧ v = .int .i64 i ∧ Hid (good (s.data.toList.drop i) = ANS)) (fun v => s.size - (intOf v).toNat)
  case atStart => exact ⟨0, Nat.zero_le _, rfl, HANS⟩
  case round =>
    obtain ⟨i, hi, rfl, HG0⟩ := hrel
    by_cases hlt : i < s.size
    · obtain ⟨L, hL⟩ : ∃ L, s.data.toList.drop i = L := ⟨_, rfl⟩
      have HL := Lib.hid hL
      have HG : Hid (good L = ANS) := Lib.hid (by rw [← HL.out]; exact HG0.out)
      have HB : Hid (bt L 0 = s[i].toNat ∧ L.length = s.size - i ∧ 0 < L.length) := Lib.hid (by
        have e : s.data.toList.length = s.size := Array.length_toList
        rw [← HL.out]; exact ⟨bt_at0 s i hlt, by rw [List.length_drop]; omega, by rw [List.length_drop]; omega⟩)
      have HN : Hid (∀ k, good L = good (L.drop k) → good (s.data.toList.drop (i + k)) = ANS) := Lib.hid (fun k h => by rw [← drop_more, HL.out, ← h]; exact HG.out)
      have HJ : Hid (∀ j (h : i + j < s.size), bt L j = s[i + j].toNat) := Lib.hid (fun j h => by rw [← HL.out]; exact bt_at s i j h)
      clear HG0 hL HL
      have b0 : (0 : Int) ≤ (s[i].toNat : Int) := by omega
      have b1 : (s[i].toNat : Int) ≤ 255 := by have := s[i].toNat_lt; omega
      by_cases c0 : (s[i].toNat : Int) = 0
      · have c0' : ((s[i].toNat : Int) == 0) = true := by simpa using c0
        have HA : Hid (ANS = false) := Lib.hid (by rw [← HG.out]; have hb := HB.out; exact good_zero hb.2.2 (by omega))
        clear c0
        go_wp2_with fail
        go_ret
        exact ⟨by rw [HA.out]; rfl, rfl⟩
      have c0' : ((s[i].toNat : Int) == 0) = false := by simpa using c0
      have C0 := Lib.hid c0
      clear c0
      by_cases c1 : (s[i].toNat : Int) < 128
      · have HG2 : Hid (good (s.data.toList.drop (i + 1)) = ANS) := Lib.hid (HN.out 1 (by have hb := HB.out; have hc := C0.out; exact good_one hb.2.2 (by omega) (by omega)))
        go_wp2_with fail
        go_round
        case rel => exact ⟨i + 1, by omega, by go_num, HG2⟩
        case measure => simp [intOf]; omega
      by_cases l1 : 192 ≤ (s[i].toNat : Int) ∧ (s[i].toNat : Int) < 224
      · obtain ⟨la, lb⟩ := l1
        by_cases hn : s.size - i ≤ 1
        · have hn' : (s.size : Int) - (i : Int) ≤ 1 := by omega
          have HA : Hid (ANS = false) := Lib.hid (by rw [← HG.out]; have hb := HB.out; exact good_two_no hb.2.2 (by omega) (by omega) (.inl (by omega)))
          go_wp2_with fail
          go_ret
          exact ⟨by rw [HA.out]; rfl, rfl⟩
        · have hn' : ¬ (s.size : Int) - (i : Int) ≤ 1 := by omega
          have HX : Hid (192 ≤ bt L 0 ∧ bt L 0 < 224) := Lib.hid (by have hb := HB.out; omega)
          go_wp2_with fail
          go_loop [7, 8, 9] (fun r k c => ∃ (x : Int) (j : Nat), r = .int .i32 x ∧ k = .int .i64 j ∧ 1 ≤ j ∧ j ≤ 1 + 1 ∧ Hid (x = rv L 192 j ∧ conts L j)) (fun _ k _ => 1 + 1 - (intOf k).toNat)
          case atStart => exact ⟨(bt L 0 : Int) - 192, 1, (by rw [HB.out.1]), rfl, by omega, by omega, Lib.hid ⟨rfl, conts_one L⟩⟩
          case round =>
            obtain ⟨x, j, rfl, rfl, j1, j2, HV⟩ := hrel
            have hx2 : 0 ≤ x ∧ x ≤ 2097151 ∧ (j ≤ 1 → x ≤ 32767) := by
              have hv := HV.out
              have hx := HX.out
              obtain ⟨k, rfl⟩ : ∃ k, j = k + 1 := ⟨j - 1, by omega⟩
              have hb := rv_bd (m := 32) hx.1 (by omega) k hv.2
              rw [← hv.1] at hb
              obtain rfl | rfl : k = 0 ∨ k = 1 := by omega
              · simp at hb; omega
              · simp at hb; omega
            obtain ⟨hx3, hx4, hx5⟩ := hx2
            by_cases hj : j ≤ 1
            · have hj' : (j : Int) ≤ 1 := by omega
              have hx6 := hx5 hj
              clear hx5
              have hb : i + j < s.size := by omega
              have HJ1 := Lib.hid (HJ.out j hb)
              have hx0 : (0 : Int) ≤ (s[i + j].toNat : Int) := by omega
              have hx1 : (s[i + j].toNat : Int) ≤ 255 := by have := s[i + j].toNat_lt; omega
              by_cases d1 : (s[i + j].toNat : Int) < 128
              · have HA : Hid (ANS = false) := Lib.hid (by
                  rw [← HG.out]
                  have hB := HB.out
                  have hj1 := HJ1.out
                  clear HJ1
                  obtain rfl : j = 1 := by omega
                  · exact good_two_no hB.2.2 (by omega) (by omega) (.inr (.inl (by omega))))
                go_wp2_with fail
                go_ret
                exact ⟨by rw [HA.out]; rfl, rfl⟩
              · by_cases d2 : 192 ≤ (s[i + j].toNat : Int)
                · have HA : Hid (ANS = false) := Lib.hid (by
                    rw [← HG.out]
                    have hB := HB.out
                    have hj1 := HJ1.out
                    clear HJ1
                    obtain rfl : j = 1 := by omega
                    · exact good_two_no hB.2.2 (by omega) (by omega) (.inr (.inr (.inl (by omega)))))
                  go_wp2_with fail
                  go_ret
                  exact ⟨by rw [HA.out]; rfl, rfl⟩
                · have HV2 : Hid (x * 64 + ((s[i + j].toNat : Int) - 128) = rv L 192 (j + 1) ∧ conts L (j + 1)) := Lib.hid (by
                    have hv := HV.out
                    have hj1 := HJ1.out
                    exact ⟨by rw [rv_succ L 192 j1, ← hv.1, hj1], conts_succ hv.2 (by omega) (by omega)⟩)
                  go_wp2_with fail
                  go_round
                  case rel => exact ⟨x * 64 + ((s[i + j].toNat : Int) - 128), j + 1, by go_num, by go_num, by omega, by omega, HV2⟩
                  case measure => simp [intOf]; omega
            · have hj' : ¬ (j : Int) ≤ 1 := by omega
              obtain rfl : j = 2 := by omega
              clear hx5
              have HE : Hid (x = ((bt L 0 : Int) - 192) * 64 + ((bt L 1 : Int) - 128) ∧ (128 ≤ bt L 1 ∧ bt L 1 < 192)) := Lib.hid ⟨HV.out.1, HV.out.2 1 (by omega) (by omega)⟩
              by_cases e1 : x < 128
              · have HA : Hid (ANS = false) := Lib.hid (by rw [← HG.out]; have hb := HB.out; have he := HE.out; have hx := HX.out; exact good_two_no hb.2.2 (by omega) (by omega) (.inr (.inr (.inr ((by omega))))))
                go_wp2_with fail
                go_ret
                exact ⟨by rw [HA.out]; rfl, rfl⟩
              have e2 : x ≤ 2047 := by have he := HE.out; have hx := HX.out; omega
              have HG2 : Hid (good (s.data.toList.drop (i + 2)) = ANS) := Lib.hid (HN.out 2 (by have hb := HB.out; have he := HE.out; have hx := HX.out; exact good_two (by omega) (by omega) (by omega) (by omega) (by omega) (by omega)))
              go_wp2_with fail
              go_round
              case rel => exact ⟨i + 2, by omega, by go_num, HG2⟩
              case measure => simp [intOf]; omega
      by_cases l2 : 224 ≤ (s[i].toNat : Int) ∧ (s[i].toNat : Int) < 240
      · obtain ⟨la, lb⟩ := l2
        by_cases hn : s.size - i ≤ 2
        · have hn' : (s.size : Int) - (i : Int) ≤ 2 := by omega
          have HA : Hid (ANS = false) := Lib.hid (by rw [← HG.out]; have hb := HB.out; exact good_three_no hb.2.2 (by omega) (by omega) (.inl (by omega)))
          go_wp2_with fail
          go_ret
          exact ⟨by rw [HA.out]; rfl, rfl⟩
        · have hn' : ¬ (s.size : Int) - (i : Int) ≤ 2 := by omega
          have HX : Hid (224 ≤ bt L 0 ∧ bt L 0 < 240) := Lib.hid (by have hb := HB.out; omega)
          go_wp2_with fail
          go_loop [7, 8, 9] (fun r k c => ∃ (x : Int) (j : Nat), r = .int .i32 x ∧ k = .int .i64 j ∧ 1 ≤ j ∧ j ≤ 2 + 1 ∧ Hid (x = rv L 224 j ∧ conts L j)) (fun _ k _ => 2 + 1 - (intOf k).toNat)
          case atStart => exact ⟨(bt L 0 : Int) - 224, 1, (by rw [HB.out.1]), rfl, by omega, by omega, Lib.hid ⟨rfl, conts_one L⟩⟩
          case round =>
            obtain ⟨x, j, rfl, rfl, j1, j2, HV⟩ := hrel
            have hx2 : 0 ≤ x ∧ x ≤ 2097151 ∧ (j ≤ 2 → x ≤ 32767) := by
              have hv := HV.out
              have hx := HX.out
              obtain ⟨k, rfl⟩ : ∃ k, j = k + 1 := ⟨j - 1, by omega⟩
              have hb := rv_bd (m := 16) hx.1 (by omega) k hv.2
              rw [← hv.1] at hb
              obtain rfl | rfl | rfl : k = 0 ∨ k = 1 ∨ k = 2 := by omega
              · simp at hb; omega
              · simp at hb; omega
              · simp at hb; omega
            obtain ⟨hx3, hx4, hx5⟩ := hx2
            by_cases hj : j ≤ 2
            · have hj' : (j : Int) ≤ 2 := by omega
              have hx6 := hx5 hj
              clear hx5
              have hb : i + j < s.size := by omega
              have HJ1 := Lib.hid (HJ.out j hb)
              have hx0 : (0 : Int) ≤ (s[i + j].toNat : Int) := by omega
              have hx1 : (s[i + j].toNat : Int) ≤ 255 := by have := s[i + j].toNat_lt; omega
              by_cases d1 : (s[i + j].toNat : Int) < 128
              · have HA : Hid (ANS = false) := Lib.hid (by
                  rw [← HG.out]
                  have hB := HB.out
                  have hj1 := HJ1.out
                  clear HJ1
                  obtain rfl | rfl : j = 1 ∨ j = 2 := by omega
                  · exact good_three_no hB.2.2 (by omega) (by omega) (.inr (.inl (by omega)))
                  · exact good_three_no hB.2.2 (by omega) (by omega) (.inr (.inr (.inr (.inl (by omega))))))
                go_wp2_with fail
                go_ret
                exact ⟨by rw [HA.out]; rfl, rfl⟩
              · by_cases d2 : 192 ≤ (s[i + j].toNat : Int)
                · have HA : Hid (ANS = false) := Lib.hid (by
                    rw [← HG.out]
                    have hB := HB.out
                    have hj1 := HJ1.out
                    clear HJ1
                    obtain rfl | rfl : j = 1 ∨ j = 2 := by omega
                    · exact good_three_no hB.2.2 (by omega) (by omega) (.inr (.inr (.inl (by omega))))
                    · exact good_three_no hB.2.2 (by omega) (by omega) (.inr (.inr (.inr (.inr (.inl (by omega)))))))
                  go_wp2_with fail
                  go_ret
                  exact ⟨by rw [HA.out]; rfl, rfl⟩
                · have HV2 : Hid (x * 64 + ((s[i + j].toNat : Int) - 128) = rv L 224 (j + 1) ∧ conts L (j + 1)) := Lib.hid (by
                    have hv := HV.out
                    have hj1 := HJ1.out
                    exact ⟨by rw [rv_succ L 224 j1, ← hv.1, hj1], conts_succ hv.2 (by omega) (by omega)⟩)
                  go_wp2_with fail
                  go_round
                  case rel => exact ⟨x * 64 + ((s[i + j].toNat : Int) - 128), j + 1, by go_num, by go_num, by omega, by omega, HV2⟩
                  case measure => simp [intOf]; omega
            · have hj' : ¬ (j : Int) ≤ 2 := by omega
              obtain rfl : j = 3 := by omega
              clear hx5
              have HE : Hid (x = (((bt L 0 : Int) - 224) * 64 + ((bt L 1 : Int) - 128)) * 64 + ((bt L 2 : Int) - 128) ∧ (128 ≤ bt L 1 ∧ bt L 1 < 192) ∧ (128 ≤ bt L 2 ∧ bt L 2 < 192)) := Lib.hid ⟨HV.out.1, HV.out.2 1 (by omega) (by omega), HV.out.2 2 (by omega) (by omega)⟩
              by_cases e1 : x < 2048
              · have HA : Hid (ANS = false) := Lib.hid (by rw [← HG.out]; have hb := HB.out; have he := HE.out; have hx := HX.out; exact good_three_no hb.2.2 (by omega) (by omega) (.inr (.inr (.inr (.inr (.inr (.inl (by omega))))))))
                go_wp2_with fail
                go_ret
                exact ⟨by rw [HA.out]; rfl, rfl⟩
              have e2 : x ≤ 65535 := by have he := HE.out; have hx := HX.out; omega
              by_cases e3 : 55296 ≤ x
              · by_cases e4 : x < 57344
                · have HA : Hid (ANS = false) := Lib.hid (by rw [← HG.out]; have hb := HB.out; have he := HE.out; have hx := HX.out; exact good_three_no hb.2.2 (by omega) (by omega) (.inr (.inr (.inr (.inr (.inr (.inr ((by omega)))))))))
                  go_wp2_with fail
                  go_ret
                  exact ⟨by rw [HA.out]; rfl, rfl⟩
                · have HG2 : Hid (good (s.data.toList.drop (i + 3)) = ANS) := Lib.hid (HN.out 3 (by have hb := HB.out; have he := HE.out; have hx := HX.out; exact good_three (by omega) (by omega) (by omega) (by omega) (by omega) (by omega) (by omega) (by omega) (by omega)))
                  go_wp2_with fail
                  go_round
                  case rel => exact ⟨i + 3, by omega, by go_num, HG2⟩
                  case measure => simp [intOf]; omega
              · have HG2 : Hid (good (s.data.toList.drop (i + 3)) = ANS) := Lib.hid (HN.out 3 (by have hb := HB.out; have he := HE.out; have hx := HX.out; exact good_three (by omega) (by omega) (by omega) (by omega) (by omega) (by omega) (by omega) (by omega) (by omega)))
                go_wp2_with fail
                go_round
                case rel => exact ⟨i + 3, by omega, by go_num, HG2⟩
                case measure => simp [intOf]; omega
      by_cases l3 : 240 ≤ (s[i].toNat : Int) ∧ (s[i].toNat : Int) < 248
      · obtain ⟨la, lb⟩ := l3
        by_cases hn : s.size - i ≤ 3
        · have hn' : (s.size : Int) - (i : Int) ≤ 3 := by omega
          have HA : Hid (ANS = false) := Lib.hid (by rw [← HG.out]; have hb := HB.out; exact good_four_no hb.2.2 (by omega) (by omega) (.inl (by omega)))
          go_wp2_with fail
          go_ret
          exact ⟨by rw [HA.out]; rfl, rfl⟩
        · have hn' : ¬ (s.size : Int) - (i : Int) ≤ 3 := by omega
          have HX : Hid (240 ≤ bt L 0 ∧ bt L 0 < 248) := Lib.hid (by have hb := HB.out; omega)
          go_wp2_with fail
          go_loop [7, 8, 9] (fun r k c => ∃ (x : Int) (j : Nat), r = .int .i32 x ∧ k = .int .i64 j ∧ 1 ≤ j ∧ j ≤ 3 + 1 ∧ Hid (x = rv L 240 j ∧ conts L j)) (fun _ k _ => 3 + 1 - (intOf k).toNat)
          case atStart => exact ⟨(bt L 0 : Int) - 240, 1, (by rw [HB.out.1]), rfl, by omega, by omega, Lib.hid ⟨rfl, conts_one L⟩⟩
          case round =>
            obtain ⟨x, j, rfl, rfl, j1, j2, HV⟩ := hrel
            have hx2 : 0 ≤ x ∧ x ≤ 2097151 ∧ (j ≤ 3 → x ≤ 32767) := by
              have hv := HV.out
              have hx := HX.out
              obtain ⟨k, rfl⟩ : ∃ k, j = k + 1 := ⟨j - 1, by omega⟩
              have hb := rv_bd (m := 8) hx.1 (by omega) k hv.2
              rw [← hv.1] at hb
              obtain rfl | rfl | rfl | rfl : k = 0 ∨ k = 1 ∨ k = 2 ∨ k = 3 := by omega
              · simp at hb; omega
              · simp at hb; omega
              · simp at hb; omega
              · simp at hb; omega
            obtain ⟨hx3, hx4, hx5⟩ := hx2
            by_cases hj : j ≤ 3
            · have hj' : (j : Int) ≤ 3 := by omega
              have hx6 := hx5 hj
              clear hx5
              have hb : i + j < s.size := by omega
              have HJ1 := Lib.hid (HJ.out j hb)
              have hx0 : (0 : Int) ≤ (s[i + j].toNat : Int) := by omega
              have hx1 : (s[i + j].toNat : Int) ≤ 255 := by have := s[i + j].toNat_lt; omega
              by_cases d1 : (s[i + j].toNat : Int) < 128
              · have HA : Hid (ANS = false) := Lib.hid (by
                  rw [← HG.out]
                  have hB := HB.out
                  have hj1 := HJ1.out
                  clear HJ1
                  obtain rfl | rfl | rfl : j = 1 ∨ j = 2 ∨ j = 3 := by omega
                  · exact good_four_no hB.2.2 (by omega) (by omega) (.inr (.inl (by omega)))
                  · exact good_four_no hB.2.2 (by omega) (by omega) (.inr (.inr (.inr (.inl (by omega)))))
                  · exact good_four_no hB.2.2 (by omega) (by omega) (.inr (.inr (.inr (.inr (.inr (.inl (by omega))))))))
                go_wp2_with fail
                go_ret
                exact ⟨by rw [HA.out]; rfl, rfl⟩
              · by_cases d2 : 192 ≤ (s[i + j].toNat : Int)
                · have HA : Hid (ANS = false) := Lib.hid (by
                    rw [← HG.out]
                    have hB := HB.out
                    have hj1 := HJ1.out
                    clear HJ1
                    obtain rfl | rfl | rfl : j = 1 ∨ j = 2 ∨ j = 3 := by omega
                    · exact good_four_no hB.2.2 (by omega) (by omega) (.inr (.inr (.inl (by omega))))
                    · exact good_four_no hB.2.2 (by omega) (by omega) (.inr (.inr (.inr (.inr (.inl (by omega))))))
                    · exact good_four_no hB.2.2 (by omega) (by omega) (.inr (.inr (.inr (.inr (.inr (.inr (.inl (by omega)))))))))
                  go_wp2_with fail
                  go_ret
                  exact ⟨by rw [HA.out]; rfl, rfl⟩
                · have HV2 : Hid (x * 64 + ((s[i + j].toNat : Int) - 128) = rv L 240 (j + 1) ∧ conts L (j + 1)) := Lib.hid (by
                    have hv := HV.out
                    have hj1 := HJ1.out
                    exact ⟨by rw [rv_succ L 240 j1, ← hv.1, hj1], conts_succ hv.2 (by omega) (by omega)⟩)
                  go_wp2_with fail
                  go_round
                  case rel => exact ⟨x * 64 + ((s[i + j].toNat : Int) - 128), j + 1, by go_num, by go_num, by omega, by omega, HV2⟩
                  case measure => simp [intOf]; omega
            · have hj' : ¬ (j : Int) ≤ 3 := by omega
              obtain rfl : j = 4 := by omega
              clear hx5
              have HE : Hid (x = ((((bt L 0 : Int) - 240) * 64 + ((bt L 1 : Int) - 128)) * 64 + ((bt L 2 : Int) - 128)) * 64 + ((bt L 3 : Int) - 128) ∧ (128 ≤ bt L 1 ∧ bt L 1 < 192) ∧ (128 ≤ bt L 2 ∧ bt L 2 < 192) ∧ (128 ≤ bt L 3 ∧ bt L 3 < 192)) := Lib.hid ⟨HV.out.1, HV.out.2 1 (by omega) (by omega), HV.out.2 2 (by omega) (by omega), HV.out.2 3 (by omega) (by omega)⟩
              by_cases e1 : x < 65536
              · have HA : Hid (ANS = false) := Lib.hid (by rw [← HG.out]; have hb := HB.out; have he := HE.out; have hx := HX.out; exact good_four_no hb.2.2 (by omega) (by omega) (.inr (.inr (.inr (.inr (.inr (.inr (.inr (.inl (by omega))))))))))
                go_wp2_with fail
                go_ret
                exact ⟨by rw [HA.out]; rfl, rfl⟩
              by_cases e3 : 1114111 < x
              · have HA : Hid (ANS = false) := Lib.hid (by rw [← HG.out]; have hb := HB.out; have he := HE.out; have hx := HX.out; exact good_four_no hb.2.2 (by omega) (by omega) (.inr (.inr (.inr (.inr (.inr (.inr (.inr (.inr ((by omega)))))))))))
                go_wp2_with fail
                go_ret
                exact ⟨by rw [HA.out]; rfl, rfl⟩
              have e4 : ¬ x < 57344 := by omega
              have HG2 : Hid (good (s.data.toList.drop (i + 4)) = ANS) := Lib.hid (HN.out 4 (by have hb := HB.out; have he := HE.out; have hx := HX.out; exact good_four (by omega) (by omega) (by omega) (by omega) (by omega) (by omega) (by omega) (by omega) (by omega) (by omega) (by omega)))
              go_wp2_with fail
              go_round
              case rel => exact ⟨i + 4, by omega, by go_num, HG2⟩
              case measure => simp [intOf]; omega
      have e1 : (s[i].toNat : Int) < 192 ∨ 248 ≤ (s[i].toNat : Int) := by omega
      have HA : Hid (ANS = false) := Lib.hid (by rw [← HG.out]; have hb := HB.out; exact good_lead hb.2.2 (by omega) (by omega))
      clear l1 l2 l3
      rcases e1 with e1 | e1
      · go_wp2_with fail
        go_ret
        exact ⟨by rw [HA.out]; rfl, rfl⟩
      · go_wp2_with fail
        go_ret
        exact ⟨by rw [HA.out]; rfl, rfl⟩
    · have HA : Hid (ANS = true) := Lib.hid (by rw [← HG0.out, List.drop_eq_nil_of_le (by have e : s.data.toList.length = s.size := Array.length_toList; omega)]; rfl)
      go_wp2_with fail
      go_ret
      exact ⟨by rw [HA.out]; rfl, rfl⟩
end Go.Proofs.YtfabcnbblhadnaaDoor.Cell
