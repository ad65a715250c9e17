/- lapidarylaw05.awake: the document's example. -/
import Derived.Test.YtbpgjpopmohbmaaPageF
import Derived.Lib.SmallJoins
namespace Go.Proofs.Ytbpgjpopmohbmaa.Mem
open Go.RowKit Go.Proofs.Ytbpgjpopmohbmaa.Nums
set_option linter.unusedVariables false
set_option linter.unusedSimpArgs false
set_option maxRecDepth 100000
set_option maxHeartbeats 1000000
theorem nowhere_any (w : World) : Calls Try.prog 33 #[] w fun e w' => e = .returned (.agg #[.int .i64 (-1), .int .i64 (-1)]) ∧ Below w.heap.size w w' := by
  go_enter Try.func33, Try.ntmps33
  go_wp2_with fail
  exact bodyPost_ret (v := .agg #[.int .i64 (-1), .int .i64 (-1)]) (by simp [results, Try.results33, go_sem]) rfl ⟨rfl, by repeat (first | exact Below.refl _ _ | exact bel_alloc _ _ | refine Below.setCell ?_ (Nat.le_refl _) _)⟩
theorem x0_len : X0.length = 512 := by kernel_rfl
theorem x0_sl : slN X0 = 0 := by kernel_rfl
theorem x0_bg : bgN X0 = 512 := by kernel_rfl
theorem x0_fine : Fine X0 := ⟨by rw [x0_sl]; omega, fun s h => by rw [x0_sl] at h; omega⟩
theorem x0_next : IsNext X0 0 := ⟨by omega, fun j h => absurd h (by omega), fun h => by rw [x0_sl] at h; omega⟩
theorem x0_room : roomN X0 0 = 474 := by unfold roomN; rw [x0_sl]; rfl
def X1 : List UInt8 := placeL (lay X0 0 (nb 1 2)) 0 481 (verL 1 1 0 0 0 [97])
theorem x1_sl : slN X1 = 1 := by kernel_rfl
theorem x1_fr : frS X1 0 = 481 := by kernel_rfl
theorem x1_sz : szS X1 0 = 31 := by kernel_rfl
theorem x1_fine : Fine X1 := ⟨by rw [x1_sl]; omega, fun s h => by rw [x1_sl] at h; obtain rfl : s = 0 := (by omega); rw [x1_fr, x1_sz]; decide⟩
theorem x1_next : IsNext X1 1 := ⟨by rw [x1_sl]; omega, fun j h => by obtain rfl : j = 0 := (by omega); rw [x1_sz]; decide, fun h => by rw [x1_sl] at h; omega⟩
theorem x1_room : roomN X1 1 = 439 := by
  unfold roomN
  rw [x1_sl, show suN X1 1 = 31 by show 0 + szS X1 0 = 31; rw [x1_sz]]
  rfl
def X2 : List UInt8 := lay (freeL X1 0 481 31) 0 (nb 0 2)
theorem y1_sz : szS (freeL X1 0 481 31) 0 = 0 := by kernel_rfl
theorem x2_sl : slN X2 = 0 := by kernel_rfl
theorem x2_fine : Fine X2 := ⟨by rw [x2_sl]; omega, fun s h => by rw [x2_sl] at h; omega⟩
theorem x2_next : IsNext X2 0 := ⟨by omega, fun j h => absurd h (by omega), fun h => by rw [x2_sl] at h; omega⟩
theorem x2_room : roomN X2 0 = 474 := by unfold roomN; rw [x2_sl]; rfl
theorem awake5 (w : World) : Calls Try.prog 14 #[] w fun e w' => e = .returned (.bool true) ∧ Below w.heap.size w w' := by
  obtain ⟨P, hP⟩ : ∃ P, w.heap.size = P := ⟨_, rfl⟩
  have HPE := Lib.hid hP
  go_enter Try.func14, Try.ntmps14
  go_wp2_with fail
  refine (new_pg w).mono ?_
  rintro e w1 ⟨rfl, hp1, hb1⟩
  rw [hP] at hp1 hb1 ⊢
  have HP1 := Lib.hid hp1
  have HB1 := Lib.hid hb1
  have CR := Lib.hid (room_q P 0 X0 w1 hp1 x0_fine x0_next)
  rw [x0_room] at CR
  clear hp1 hb1 hP
  go_wp2_with fail
  refine CR.out.mono ?_
  rintro e w2 ⟨rfl, m, rfl⟩
  go_wp2_with fail
  refine (nowhere_any _).mono ?_
  rintro e w3 ⟨rfl, hb3⟩
  have HB3' : Hid (Below w1.heap.size (w1.drewN m) w3) := Lib.hid hb3
  have HP3 : Hid (Pg w3 P X0) := Lib.hid ⟨Blk.below (w := w1.drewN m) (HP1.out.drewN m).1 HB3'.out (Blk.lt HP1.out.1), HP1.out.2⟩
  have HB3 : Hid (Below P w w3) := Lib.hid ((show Below P w (w1.drewN m) from ⟨HB1.out.os, HB1.out.tape, HB1.out.output, HB1.out.size, HB1.out.block⟩).trans (HB3'.out.mono (by have := Blk.lt HP1.out.1; omega)))
  clear hb3
  have hcv := Lib.run_convert_bytes_const (P := Try.prog) w3 31 5 #[.int .u8 97] 1 1 Try.underlying31 Try.underlying5
  go_wp2_with fail
  clear hcv
  have HP4 : Hid (∀ fr, Pg (w3.alloc (.cells #[.int .u8 97] 5 fr)) P X0) := Lib.hid fun fr => ⟨Blk.alloc HP3.out.1 _, HP3.out.2⟩
  have HS4 : Hid (∀ fr, Sl (w3.alloc (.cells #[.int .u8 97] 5 fr)) (w3.alloc (.cells #[.int .u8 97] 5 fr)).heap.size 1 (some ⟨w3.heap.size, 0, none⟩) 1 1 (u8s [97])) := Lib.hid fun fr => ⟨rfl, Nat.le_refl _, by unfold maxLen; omega, (fun e => by cases e), fun _ => ⟨_, rfl, by rw [size_alloc]; exact Nat.lt_succ_self _, fun j u hu => by
    rw [add_flat, World.cell?_alloc_mark]
    have h1 : j = 0 := by
      rcases Nat.eq_zero_or_pos j with h | h
      · exact h
      · rw [List.getElem?_eq_none (by rw [u8s_len]; exact h)] at hu; cases hu
    subst h1
    exact hu⟩⟩
  refine (insert_ok P 0 1 1 0 0 0 1 1 481 (-1) (-1) (some ⟨w3.heap.size, 0, none⟩) [97] X0 _ (HP4.out _) x0_fine x0_next rfl (HS4.out _) rfl (by omega) (by omega) (by omega) rfl rfl (by omega) (by omega) (by omega) (by rw [x0_room]; decide) (by rw [x0_bg]) (by rw [x0_sl]; decide) (by omega)).mono ?_
  rintro e w5 ⟨rfl, hp5, ho5⟩
  rw [x0_sl] at hp5
  have HP5 : Hid (Pg w5 P X1) := Lib.hid hp5
  have HB5 : Hid (Below P w w5) := Lib.hid ((HB3.out.trans ((bel_alloc w3 _).mono (Nat.le_of_lt (Blk.lt HP3.out.1)))).trans (ho5.below (by rw [size_alloc]; have := Blk.lt HP3.out.1; omega) (Nat.le_refl _)))
  have CR5 := Lib.hid (room_q P 1 X1 w5 HP5.out x1_fine x1_next)
  rw [x1_room] at CR5
  clear hp5 ho5
  go_wp2_with fail
  refine CR5.out.mono ?_
  rintro e w6 ⟨rfl, m6, rfl⟩
  have CF := Lib.hid (free_pg P 0 481 31 X1 (w5.drewN m6) (HP5.out.drewN m6) x1_fine (by rw [x1_sl]; omega) x1_fr x1_sz (by omega) (by rw [x1_sl]; omega))
  go_wp2_with fail
  refine CF.out.mono ?_
  rintro e w7 ⟨rfl, k, hk, hall, hlast, hp7, ho7⟩
  obtain rfl : k = 0 := by
    rw [x1_sl] at hk
    rcases Nat.eq_zero_or_pos k with h | h
    · exact h
    · obtain rfl : k = 1 := by omega
      exact absurd y1_sz (hlast h)
  have HP7 : Hid (Pg w7 P X2) := Lib.hid hp7
  have HB7 : Hid (Below P w w7) := Lib.hid (HB5.out.trans ((show Only P w5 (w5.drewN m6) from ⟨rfl, rfl, rfl, Nat.le_refl _, fun _ _ _ => rfl⟩).trans ho7 |>.below (Nat.le_of_lt (Blk.lt HP5.out.1)) (Nat.le_refl _)))
  have CS7 := Lib.hid (slots_pg P X2 w7 HP7.out)
  have e7 : get2 X2 0 = 0 := x2_sl
  rw [e7] at CS7
  have CR7 := Lib.hid (room_q P 0 X2 w7 HP7.out x2_fine x2_next)
  rw [x2_room] at CR7
  clear hp7 ho7 hk hall hlast e7
  go_wp2_with fail
  refine CS7.out.mono ?_
  rintro e w8 ⟨rfl, rfl⟩
  go_wp2_with fail
  refine CR7.out.mono ?_
  rintro e w8 ⟨rfl, m8, rfl⟩
  go_wp2_with fail
  go_ret
  exact ⟨rfl, by rw [HPE.out]; exact ⟨HB7.out.os, HB7.out.tape, HB7.out.output, HB7.out.size, HB7.out.block⟩⟩
end Go.Proofs.Ytbpgjpopmohbmaa.Mem
