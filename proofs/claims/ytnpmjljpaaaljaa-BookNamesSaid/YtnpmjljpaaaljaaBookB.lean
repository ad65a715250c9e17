/- lapidaryref11.Name: when a text is a name. -/
import Derived.Test.YtnpmjljpaaaljaaBookA
import Derived.Deep.CutRange
namespace Go.Proofs.Ytnpmjljpaaaljaa.Bok
open Go.RowKit Go.Proofs.Ytnpmjljpaaaljaa.Nums
set_option linter.unusedVariables false
set_option linter.unusedSimpArgs false
set_option maxRecDepth 100000
set_option maxHeartbeats 1000000
theorem rname_any (s : ByteArray) (w : World) (hm : s.size ≤ 1000) :
    Calls Try.prog 37 #[.string s] w fun e w' => e = .returned (.bool (nameB s)) ∧ w = w' := by
  by_cases h0 : s.size = 0
  · have q0 : ((s.size : Int) < 1) := by omega
    have HB := Lib.hid (name_out (.inl h0))
    clear hm
    go_enter Try.func37, Try.ntmps37
    go_wp2_with fail
    go_ret
    exact ⟨by rw [HB.out]; rfl, rfl⟩
  by_cases h1 : 20 < s.size
  · have q0 : ¬ ((s.size : Int) < 1) := by omega
    have q2 : (0 : Int) < s.size := by omega
    have q1 : (20 : Int) < s.size := by omega
    have HB := Lib.hid (name_out (.inr h1))
    clear h0 h1 hm
    go_enter Try.func37, Try.ntmps37
    go_wp2_with fail
    go_ret
    exact ⟨by rw [HB.out]; rfl, rfl⟩
  have q0 : ¬ ((s.size : Int) < 1) := by omega
  have q2 : (0 : Int) < s.size := by omega
  have q1 : ¬ (20 : Int) < s.size := by omega
  have HSZ : Hid (0 < s.size ∧ s.size ≤ 20) := Lib.hid (by omega)
  by_cases hz : 48 ≤ (s[0]'HSZ.out.1).toNat ∧ (s[0]'HSZ.out.1).toNat ≤ 57
  · have p4 : (48 : Int) ≤ ((s[0]'HSZ.out.1).toNat : Int) := by omega
    have p5 : ((s[0]'HSZ.out.1).toNat : Int) ≤ 57 := by omega
    have HB : Hid (nameB s = false) := Lib.hid (name_no HSZ.out.1 (by rw [ok_at HSZ.out.1]; simp [letB]; omega))
    clear h0 h1 hz hm
    go_enter Try.func37, Try.ntmps37
    go_wp2_with fail
    go_ret
    exact ⟨by rw [HB.out]; rfl, rfl⟩
  have HZ := Lib.hid hz
  have hz1 : ((s[0]'HSZ.out.1).toNat : Int) < 48 ∨ (57 : Int) < ((s[0]'HSZ.out.1).toNat : Int) := by omega
  clear hz
  rcases hz1 with hz1 | hz1
  · have hz2 : ¬ (48 : Int) ≤ ((s[0]'HSZ.out.1).toNat : Int) := by omega
    clear h0 h1 hz1 hm
    go_enter Try.func37, Try.ntmps37
    go_wp2_with fail
    go_loopw [3] (fun i wr => ∃ j : Nat, j ≤ s.size ∧ i = .int .i64 j ∧ wr = w ∧ ∀ q, q < j → okAt s q = true) (fun i _ => s.size - (intOf i).toNat)
    case atStart => exact ⟨0, by omega, rfl, rfl, fun q hq => absurd hq (by omega)⟩
    case round =>
      obtain ⟨j, hj, rfl, rfl, hall⟩ := hrel
      have HALL := Lib.hid hall
      clear hall
      by_cases hlt : j < s.size
      · have hlt' : (j : Int) < s.size := by omega
        have hj0 : (0 : Int) ≤ j := by omega
        have HJ := Lib.hid hlt
        have HO := Lib.hid (ok_at hlt)
        go_upto_region 7 with fail
        obtain ⟨c, hc⟩ : ∃ c, s[j].toNat = c := ⟨_, rfl⟩
        erw [hc]
        erw [hc] at HO
        (have HZC : Hid (j = 0 → ¬ (48 ≤ c ∧ c ≤ 57)) := Lib.hid (by intro e0; subst e0; rw [← hc]; exact HZ.out)); clear hc
        rcases (by omega : (c < 48) ∨ (48 ≤ c ∧ c ≤ 57) ∨ (58 ≤ c ∧ c ≤ 96 ∧ ¬ c = 95) ∨ (c = 95) ∨ (97 ≤ c ∧ c ≤ 122) ∨ (122 < c)) with hr | hr | hr | hr | hr | hr
        · have p1 : ((c : Int) == 95) = false := by rw [beq_eq_false_iff_ne]; omega
          have p0 : ¬ (c : Int) = 95 := by omega
          have p2 : ¬ (97 : Int) ≤ (c : Int) := by omega
          have p3 : (c : Int) ≤ 122 := by omega
          have p4 : ¬ (48 : Int) ≤ (c : Int) := by omega
          have p5 : (c : Int) ≤ 57 := by omega
          have HB : Hid (nameB s = false) := Lib.hid (name_no hlt (by rw [HO.out]; simp [letB, digB]; omega))
          clear hr hj
          skip
          go_wp2_with fail
          go_ret
          exact ⟨by rw [HB.out]; rfl, rfl⟩
        · have p1 : ((c : Int) == 95) = false := by rw [beq_eq_false_iff_ne]; omega
          have p0 : ¬ (c : Int) = 95 := by omega
          have p2 : ¬ (97 : Int) ≤ (c : Int) := by omega
          have p3 : (c : Int) ≤ 122 := by omega
          have p4 : (48 : Int) ≤ (c : Int) := by omega
          have p5 : (c : Int) ≤ 57 := by omega
          have HN : Hid (∀ q, q < j + 1 → okAt s q = true) := Lib.hid (fun q hq => by
            by_cases e : q = j
            · subst e
              by_cases hq0 : q = 0
              · exact absurd hr (HZC.out hq0)
              · rw [HO.out]; simp [digB, hq0]; omega
            · exact HALL.out q (by omega))
          clear hr hj
          skip
          go_wp2_with fail
          go_roundw
          case rel => exact ⟨j + 1, by have := HJ.out; omega, by go_num, by first | rfl | trivial, HN.out⟩
          case measure => have := HJ.out; simp [intOf]; omega
        · have p1 : ((c : Int) == 95) = false := by rw [beq_eq_false_iff_ne]; omega
          have p0 : ¬ (c : Int) = 95 := by omega
          have p2 : ¬ (97 : Int) ≤ (c : Int) := by omega
          have p3 : (c : Int) ≤ 122 := by omega
          have p4 : (48 : Int) ≤ (c : Int) := by omega
          have p5 : ¬ (c : Int) ≤ 57 := by omega
          have HB : Hid (nameB s = false) := Lib.hid (name_no hlt (by rw [HO.out]; simp [letB, digB]; omega))
          clear hr hj
          skip
          go_wp2_with fail
          go_ret
          exact ⟨by rw [HB.out]; rfl, rfl⟩
        · have p1 : ((c : Int) == 95) = true := by rw [beq_iff_eq]; omega
          have p2 : ¬ (97 : Int) ≤ (c : Int) := by omega
          have p3 : (c : Int) ≤ 122 := by omega
          have p4 : (48 : Int) ≤ (c : Int) := by omega
          have p5 : ¬ (c : Int) ≤ 57 := by omega
          have HN : Hid (∀ q, q < j + 1 → okAt s q = true) := Lib.hid (fun q hq => by
            by_cases e : q = j
            · subst e; rw [HO.out]; simp [letB]; omega
            · exact HALL.out q (by omega))
          clear hr hj
          skip
          go_wp2_with fail
          go_roundw
          case rel => exact ⟨j + 1, by have := HJ.out; omega, by go_num, by first | rfl | trivial, HN.out⟩
          case measure => have := HJ.out; simp [intOf]; omega
        · have p1 : ((c : Int) == 95) = false := by rw [beq_eq_false_iff_ne]; omega
          have p0 : ¬ (c : Int) = 95 := by omega
          have p2 : (97 : Int) ≤ (c : Int) := by omega
          have p3 : (c : Int) ≤ 122 := by omega
          have p4 : (48 : Int) ≤ (c : Int) := by omega
          have p5 : ¬ (c : Int) ≤ 57 := by omega
          have HN : Hid (∀ q, q < j + 1 → okAt s q = true) := Lib.hid (fun q hq => by
            by_cases e : q = j
            · subst e; rw [HO.out]; simp [letB]; omega
            · exact HALL.out q (by omega))
          clear hr hj
          skip
          go_wp2_with fail
          go_roundw
          case rel => exact ⟨j + 1, by have := HJ.out; omega, by go_num, by first | rfl | trivial, HN.out⟩
          case measure => have := HJ.out; simp [intOf]; omega
        · have p1 : ((c : Int) == 95) = false := by rw [beq_eq_false_iff_ne]; omega
          have p0 : ¬ (c : Int) = 95 := by omega
          have p2 : (97 : Int) ≤ (c : Int) := by omega
          have p3 : ¬ (c : Int) ≤ 122 := by omega
          have p4 : (48 : Int) ≤ (c : Int) := by omega
          have p5 : ¬ (c : Int) ≤ 57 := by omega
          have HB : Hid (nameB s = false) := Lib.hid (name_no hlt (by rw [HO.out]; simp [letB, digB]; omega))
          clear hr hj
          skip
          go_wp2_with fail
          go_ret
          exact ⟨by rw [HB.out]; rfl, rfl⟩
      · have hnl : ¬ (j : Int) < s.size := by omega
        have HB : Hid (nameB s = true) := Lib.hid (name_yes HSZ.out.1 HSZ.out.2 fun q h => HALL.out q (by omega))
        clear hj
        go_wp2_with fail
        go_ret
        exact ⟨by rw [HB.out]; rfl, rfl⟩
  · have hz2 : (48 : Int) ≤ ((s[0]'HSZ.out.1).toNat : Int) := by omega
    have hz3 : ¬ ((s[0]'HSZ.out.1).toNat : Int) ≤ 57 := by omega
    clear h0 h1 hz1 hm
    go_enter Try.func37, Try.ntmps37
    go_wp2_with fail
    go_loopw [3] (fun i wr => ∃ j : Nat, j ≤ s.size ∧ i = .int .i64 j ∧ wr = w ∧ ∀ q, q < j → okAt s q = true) (fun i _ => s.size - (intOf i).toNat)
    case atStart => exact ⟨0, by omega, rfl, rfl, fun q hq => absurd hq (by omega)⟩
    case round =>
      obtain ⟨j, hj, rfl, rfl, hall⟩ := hrel
      have HALL := Lib.hid hall
      clear hall
      by_cases hlt : j < s.size
      · have hlt' : (j : Int) < s.size := by omega
        have hj0 : (0 : Int) ≤ j := by omega
        have HJ := Lib.hid hlt
        have HO := Lib.hid (ok_at hlt)
        go_upto_region 7 with fail
        obtain ⟨c, hc⟩ : ∃ c, s[j].toNat = c := ⟨_, rfl⟩
        erw [hc]
        erw [hc] at HO
        (have HZC : Hid (j = 0 → ¬ (48 ≤ c ∧ c ≤ 57)) := Lib.hid (by intro e0; subst e0; rw [← hc]; exact HZ.out)); clear hc
        rcases (by omega : (c < 48) ∨ (48 ≤ c ∧ c ≤ 57) ∨ (58 ≤ c ∧ c ≤ 96 ∧ ¬ c = 95) ∨ (c = 95) ∨ (97 ≤ c ∧ c ≤ 122) ∨ (122 < c)) with hr | hr | hr | hr | hr | hr
        · have p1 : ((c : Int) == 95) = false := by rw [beq_eq_false_iff_ne]; omega
          have p0 : ¬ (c : Int) = 95 := by omega
          have p2 : ¬ (97 : Int) ≤ (c : Int) := by omega
          have p3 : (c : Int) ≤ 122 := by omega
          have p4 : ¬ (48 : Int) ≤ (c : Int) := by omega
          have p5 : (c : Int) ≤ 57 := by omega
          have HB : Hid (nameB s = false) := Lib.hid (name_no hlt (by rw [HO.out]; simp [letB, digB]; omega))
          clear hr hj
          skip
          go_wp2_with fail
          go_ret
          exact ⟨by rw [HB.out]; rfl, rfl⟩
        · have p1 : ((c : Int) == 95) = false := by rw [beq_eq_false_iff_ne]; omega
          have p0 : ¬ (c : Int) = 95 := by omega
          have p2 : ¬ (97 : Int) ≤ (c : Int) := by omega
          have p3 : (c : Int) ≤ 122 := by omega
          have p4 : (48 : Int) ≤ (c : Int) := by omega
          have p5 : (c : Int) ≤ 57 := by omega
          have HN : Hid (∀ q, q < j + 1 → okAt s q = true) := Lib.hid (fun q hq => by
            by_cases e : q = j
            · subst e
              by_cases hq0 : q = 0
              · exact absurd hr (HZC.out hq0)
              · rw [HO.out]; simp [digB, hq0]; omega
            · exact HALL.out q (by omega))
          clear hr hj
          skip
          go_wp2_with fail
          go_roundw
          case rel => exact ⟨j + 1, by have := HJ.out; omega, by go_num, by first | rfl | trivial, HN.out⟩
          case measure => have := HJ.out; simp [intOf]; omega
        · have p1 : ((c : Int) == 95) = false := by rw [beq_eq_false_iff_ne]; omega
          have p0 : ¬ (c : Int) = 95 := by omega
          have p2 : ¬ (97 : Int) ≤ (c : Int) := by omega
          have p3 : (c : Int) ≤ 122 := by omega
          have p4 : (48 : Int) ≤ (c : Int) := by omega
          have p5 : ¬ (c : Int) ≤ 57 := by omega
          have HB : Hid (nameB s = false) := Lib.hid (name_no hlt (by rw [HO.out]; simp [letB, digB]; omega))
          clear hr hj
          skip
          go_wp2_with fail
          go_ret
          exact ⟨by rw [HB.out]; rfl, rfl⟩
        · have p1 : ((c : Int) == 95) = true := by rw [beq_iff_eq]; omega
          have p2 : ¬ (97 : Int) ≤ (c : Int) := by omega
          have p3 : (c : Int) ≤ 122 := by omega
          have p4 : (48 : Int) ≤ (c : Int) := by omega
          have p5 : ¬ (c : Int) ≤ 57 := by omega
          have HN : Hid (∀ q, q < j + 1 → okAt s q = true) := Lib.hid (fun q hq => by
            by_cases e : q = j
            · subst e; rw [HO.out]; simp [letB]; omega
            · exact HALL.out q (by omega))
          clear hr hj
          skip
          go_wp2_with fail
          go_roundw
          case rel => exact ⟨j + 1, by have := HJ.out; omega, by go_num, by first | rfl | trivial, HN.out⟩
          case measure => have := HJ.out; simp [intOf]; omega
        · have p1 : ((c : Int) == 95) = false := by rw [beq_eq_false_iff_ne]; omega
          have p0 : ¬ (c : Int) = 95 := by omega
          have p2 : (97 : Int) ≤ (c : Int) := by omega
          have p3 : (c : Int) ≤ 122 := by omega
          have p4 : (48 : Int) ≤ (c : Int) := by omega
          have p5 : ¬ (c : Int) ≤ 57 := by omega
          have HN : Hid (∀ q, q < j + 1 → okAt s q = true) := Lib.hid (fun q hq => by
            by_cases e : q = j
            · subst e; rw [HO.out]; simp [letB]; omega
            · exact HALL.out q (by omega))
          clear hr hj
          skip
          go_wp2_with fail
          go_roundw
          case rel => exact ⟨j + 1, by have := HJ.out; omega, by go_num, by first | rfl | trivial, HN.out⟩
          case measure => have := HJ.out; simp [intOf]; omega
        · have p1 : ((c : Int) == 95) = false := by rw [beq_eq_false_iff_ne]; omega
          have p0 : ¬ (c : Int) = 95 := by omega
          have p2 : (97 : Int) ≤ (c : Int) := by omega
          have p3 : ¬ (c : Int) ≤ 122 := by omega
          have p4 : (48 : Int) ≤ (c : Int) := by omega
          have p5 : ¬ (c : Int) ≤ 57 := by omega
          have HB : Hid (nameB s = false) := Lib.hid (name_no hlt (by rw [HO.out]; simp [letB, digB]; omega))
          clear hr hj
          skip
          go_wp2_with fail
          go_ret
          exact ⟨by rw [HB.out]; rfl, rfl⟩
      · have hnl : ¬ (j : Int) < s.size := by omega
        have HB : Hid (nameB s = true) := Lib.hid (name_yes HSZ.out.1 HSZ.out.2 fun q h => HALL.out q (by omega))
        clear hj
        go_wp2_with fail
        go_ret
        exact ⟨by rw [HB.out]; rfl, rfl⟩
end Go.Proofs.Ytnpmjljpaaaljaa.Bok
