/- RoomMost: its walk. -/
import Derived.Test.YtghlconkmbmflaaRoomL
namespace Go.Proofs.Ytghlconkmbmflaa.Room
open Go.RowKit Go.Proofs.Ytghlconkmbmflaa.Nums Go.Proofs.Ytghlconkmbmflaa.Mem
set_option linter.unusedVariables false
set_option linter.unusedSimpArgs false
set_option maxRecDepth 100000
def sev (k : Nat) : List Int := (List.range k).map fun i : Nat => (i : Int) % 7
theorem sev_len (k : Nat) : (sev k).length = k := by simp [sev]
theorem sev_succ (k : Nat) : sev (k + 1) = sev k ++ [(k : Int) % 7] := by simp [sev, List.range_succ]
theorem sev_lt (k : Nat) : ∀ y ∈ sev k, y < 7 := by
  intro y hy
  simp only [sev, List.mem_map] at hy
  obtain ⟨i, _, rfl⟩ := hy
  omega
theorem mem_set {L : List Int} {k : Nat} {x y : Int} (h : y ∈ L.set k x) : y = x ∨ y ∈ L := by
  rcases List.mem_or_eq_of_mem_set h with h | h
  · exact .inr h
  · exact .inl h
set_option maxHeartbeats 1000000 in
theorem most_walk (w : World) (a r2 : Int) (ha : 0 ≤ a ∧ a ≤ 255) (hr : Nums.In64 r2) :
    Calls Try.prog 6 #[.int .u8 a, .int .i64 r2] w fun e w' => e = .returned (.bool true) ∧ Below w.heap.size w w' := by
  obtain ⟨n, rfl⟩ : ∃ n : Nat, a = n := ⟨a.toNat, by omega⟩
  have hn : n ≤ 255 := by omega
  obtain ⟨c2, hc2⟩ : ∃ c, clamp r2 = c := ⟨_, rfl⟩
  have hc512 : c2 ≤ 512 := by rw [← hc2]; unfold clamp; omega
  have S1 : Hid (setR (sev 256) 256 5 = (1, sev 256)) := Lib.hid (if_pos (.inr (by omega)))
  have S2 : Hid (setR (sev 256) (-1) 5 = (1, sev 256)) := Lib.hid (if_pos (.inl (by omega)))
  have S3 : Hid (setR (sev 256) n 512 = (0, (sev 256).set n 512)) := Lib.hid (setR_at (by rw [sev_len]; omega) (by omega) (by decide))
  have S4 : Hid (setR ((sev 256).set n 512) n r2 = (0, ((sev 256).set n 512).set n c2)) := Lib.hid (setR_at (by rw [List.length_set, sev_len]; omega) (by omega) hc2)
  have S5 : Hid (setR [] 1 5 = (3, [])) := Lib.hid (by decide)
  have F1 : Hid (findR ((sev 256).set n 512) 512 = ((n : Int), true)) := Lib.hid (by
    refine findAt_first (m := max 512 0) (x := 512) ?_ (by omega) ?_
    · rw [List.getElem?_set, if_pos rfl, if_pos (by rw [sev_len]; omega)]
    · intro i hi y hy
      rw [List.getElem?_set_ne (by omega)] at hy
      have := sev_lt 256 y (List.mem_of_getElem? hy)
      omega)
  have F2 : Hid (findR (((sev 256).set n 512).set n c2) 513 = (0, false)) := Lib.hid (by
    refine findAt_none (m := max 513 0) ?_ 0
    intro y hy
    rcases mem_set hy with rfl | hy
    · omega
    rcases mem_set hy with rfl | hy
    · omega
    · have := sev_lt 256 y hy
      omega)
  have N1 : Hid ((sev 256).length ≤ 256) := Lib.hid (by rw [sev_len]; omega)
  have N2 : Hid (((sev 256).set n 512).length ≤ 256) := Lib.hid (by rw [List.length_set, sev_len]; omega)
  clear hc2 hr hc512
  go_enter Try.func6, Try.ntmps6
  go_wp2_with fail
  refine (awake_any _).mono ?_
  rintro e w1 ⟨rfl, hb1⟩
  have HB1 := Lib.hid hb1
  have hz1 := hb1.size
  clear hb1
  go_wp2_with fail
  refine (new_any _).mono ?_
  rintro e w2 ⟨rfl, hw2⟩
  have HO2 : Hid (One w2 w.heap.size w1.heap.size []) := Lib.hid (by subst hw2; exact one_new w1 hz1)
  have HB2 : Hid (Below w.heap.size w w2) := Lib.hid (by subst hw2; exact bel_trans HB1.out (bel_alloc _ _))
  generalize w1.heap.size = P at *
  clear hw2 HB1
  go_wp2_with fail
  go_loopw [13] (fun i wr => ∃ k : Nat, k ≤ 256 ∧ i = .int .i64 k ∧ One wr w.heap.size P (sev k) ∧ Below w.heap.size w wr) (fun i _ => 256 - (intOf i).toNat)
  case atStart => exact ⟨0, by omega, rfl, HO2.out, HB2.out⟩
  case round =>
    obtain ⟨k, hk, rfl, ho, hb⟩ := hrel
    have HO := Lib.hid ho
    have HB := Lib.hid hb
    clear ho hb HO2 HB2
    by_cases hlt : k < 256
    · have hlt' : (k : Int) < 256 := by omega
      have HS : Hid (setR (sev k) k ((k : Int) % 7) = (0, sev (k + 1))) := Lib.hid (by rw [setR_app (sev_len k) hlt (clamp_in (r := (k : Int) % 7) (by omega) (by omega)), sev_succ])
      have HN : Hid ((sev k).length ≤ 256) := Lib.hid (by rw [sev_len]; omega)
      go_wp2_with fail
      refine (set_one HO.out HN.out _ _).mono ?_
      rw [HS.out]
      rintro e w3 ⟨rfl, ho3, hb3⟩
      have HO3 := Lib.hid ho3
      have HB3 := Lib.hid (HB.out.trans hb3)
      clear ho3 hb3
      go_wp2_with fail
      refine (pages_one HO3.out).mono ?_
      rw [sev_len]
      rintro e w4 ⟨rfl, rfl⟩
      go_wp2_with fail
      go_roundw
      case rel => exact ⟨k + 1, by omega, by go_num, HO3.out, HB3.out⟩
      case measure => simp [intOf]; omega
    · obtain rfl : k = 256 := by omega
      go_wp2_with fail
      refine (set_one HO.out N1.out _ _).mono ?_
      rw [S1.out]
      rintro e w3 ⟨rfl, ho3, hb3⟩
      have HO3 := Lib.hid ho3
      have HB3 := Lib.hid (HB.out.trans hb3)
      clear ho3 hb3
      go_wp2_with fail
      refine (set_one HO3.out N1.out _ _).mono ?_
      rw [S2.out]
      rintro e w4 ⟨rfl, ho4, hb4⟩
      have HO4 := Lib.hid ho4
      have HB4 := Lib.hid (HB3.out.trans hb4)
      clear ho4 hb4
      go_wp2_with fail
      refine (set_one HO4.out N1.out _ _).mono ?_
      rw [S3.out]
      rintro e w5 ⟨rfl, ho5, hb5⟩
      have HO5 := Lib.hid ho5
      have HB5 := Lib.hid (HB4.out.trans hb5)
      clear ho5 hb5
      go_wp2_with fail
      refine (find_one HO5.out _).mono ?_
      rw [F1.out]
      rintro e w6 ⟨rfl, rfl⟩
      go_wp2_with fail
      refine (set_one HO5.out N2.out _ _).mono ?_
      rw [S4.out]
      rintro e w6 ⟨rfl, ho6, hb6⟩
      have HO6 := Lib.hid ho6
      have HB6 := Lib.hid (HB5.out.trans hb6)
      clear ho6 hb6
      go_wp2_with fail
      refine (find_one HO6.out _).mono ?_
      rw [F2.out]
      rintro e w7 ⟨rfl, rfl⟩
      go_wp2_with fail
      refine (new_any _).mono ?_
      rintro e w7 ⟨rfl, hw7⟩
      have HO7 : Hid (One w7 w6.heap.size w6.heap.size []) := Lib.hid (by subst hw7; exact one_new w6 (Nat.le_refl _))
      have HB7 : Hid (Below w6.heap.size w6 w7) := Lib.hid (by subst hw7; exact bel_alloc _ _)
      have hz7 := HB6.out.size
      clear hw7
      go_wp2_with fail
      refine (set_one HO7.out (by simp) _ _).mono ?_
      rw [S5.out]
      rintro e w8 ⟨rfl, ho8, hb8⟩
      have HB8 : Hid (Below w.heap.size w w8) := Lib.hid (bel_trans HB6.out (HB7.out.trans hb8))
      clear ho8 hb8
      go_wp2_with fail
      go_ret
      exact ⟨rfl, HB8.out⟩
end Go.Proofs.Ytghlconkmbmflaa.Room
