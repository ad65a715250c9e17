/- book.Name and lapidaryref11.Name: when a text is a name. -/
import Derived.Test.YtnpmjljpaaaljaaBase
import Derived.Deep.CutRange
namespace Go.Proofs.Ytnpmjljpaaaljaa.Bok
open Go.RowKit Go.Proofs.Ytnpmjljpaaaljaa.Nums
set_option linter.unusedVariables false
set_option linter.unusedSimpArgs false
set_option maxRecDepth 100000
set_option maxHeartbeats 1000000
/-- a small letter or _ -/
def letB (c : Nat) : Bool := decide (c = 95) || (decide (97 ≤ c) && decide (c ≤ 122))
def digB (c : Nat) : Bool := decide (48 ≤ c) && decide (c ≤ 57)
/-- the text's byte at j may stand there in a name -/
def okAt (s : ByteArray) (j : Nat) : Bool := if h : j < s.size then letB s[j].toNat || (decide (j ≠ 0) && digB s[j].toNat) else true
def nameB (s : ByteArray) : Bool := decide (0 < s.size) && (decide (s.size ≤ 20) && (List.range s.size).all (okAt s))
theorem name_yes {s : ByteArray} (h0 : 0 < s.size) (h1 : s.size ≤ 20) (h : ∀ j, j < s.size → okAt s j = true) : nameB s = true := by
  unfold nameB
  rw [decide_eq_true h0, decide_eq_true h1, Bool.true_and, Bool.true_and, List.all_eq_true]
  intro j hj
  exact h j (List.mem_range.1 hj)
theorem name_no {s : ByteArray} {j : Nat} (hj : j < s.size) (h : okAt s j = false) : nameB s = false := by
  unfold nameB
  have : (List.range s.size).all (okAt s) = false := by
    rw [List.all_eq_false]
    exact ⟨j, List.mem_range.2 hj, by rw [h]; simp⟩
  rw [this, Bool.and_false, Bool.and_false]
theorem name_out {s : ByteArray} (h : s.size = 0 ∨ 20 < s.size) : nameB s = false := by
  unfold nameB
  rcases h with h | h
  · rw [decide_eq_false (by omega)]; rfl
  · rw [decide_eq_false (show ¬ s.size ≤ 20 by omega)]; simp
theorem ok_at {s : ByteArray} {j : Nat} (h : j < s.size) : okAt s j = (letB s[j].toNat || (decide (j ≠ 0) && digB s[j].toNat)) := dif_pos h
theorem name_any (s : ByteArray) (w : World) (hm : s.size ≤ 1000) :
    Calls Try.prog 36 #[.string s] w fun e w' => e = .returned (.bool (nameB s)) ∧ w = w' := by
  by_cases h0 : s.size = 0
  · have q0 : ((s.size : Int) == 0) = true := by rw [beq_iff_eq]; omega
    have HB := Lib.hid (name_out (.inl h0))
    clear hm
    go_enter Try.func36, Try.ntmps36
    go_wp2_with fail
    go_ret
    exact ⟨by rw [HB.out]; rfl, rfl⟩
  by_cases h1 : 20 < s.size
  · have q0 : ((s.size : Int) == 0) = false := by rw [beq_eq_false_iff_ne]; omega
    have q1 : (20 : Int) < s.size := by omega
    have HB := Lib.hid (name_out (.inr h1))
    clear h0 h1 hm
    go_enter Try.func36, Try.ntmps36
    go_wp2_with fail
    go_ret
    exact ⟨by rw [HB.out]; rfl, rfl⟩
  have q0 : ((s.size : Int) == 0) = false := by rw [beq_eq_false_iff_ne]; omega
  have q1 : ¬ (20 : Int) < s.size := by omega
  have HSZ : Hid (0 < s.size ∧ s.size ≤ 20) := Lib.hid (by omega)
  clear h0 h1 hm
  go_enter Try.func36, Try.ntmps36
  go_wp2_with fail
  go_loopw [17] (fun i wr => ∃ j : Nat, j ≤ s.size ∧ i = .int .i64 j ∧ wr = w ∧ ∀ q, q < j → okAt s q = true) (fun i _ => s.size - (intOf i).toNat)
  case atStart => exact ⟨0, by omega, rfl, rfl, fun q hq => absurd hq (by omega)⟩
  case round =>
    obtain ⟨j, hj, rfl, rfl, hall⟩ := hrel
    have HALL := Lib.hid hall
    clear hall
    by_cases hlt : j < s.size
    · have hlt' : (j : Int) < s.size := by omega
      have hj0 : (0 : Int) ≤ j := by omega
      have HJ := Lib.hid hlt
      have HO := Lib.hid (ok_at hlt)
      go_upto_region 7 with fail
      obtain ⟨c, hc⟩ : ∃ c, s[j].toNat = c := ⟨_, rfl⟩
      erw [hc]
      erw [hc] at HO
      clear hc
      rcases (by omega : (c < 48) ∨ (48 ≤ c ∧ c ≤ 57) ∨ (58 ≤ c ∧ c ≤ 96 ∧ ¬ c = 95) ∨ (c = 95) ∨ (97 ≤ c ∧ c ≤ 122) ∨ (122 < c)) with hr | hr | hr | hr | hr | hr
      · have p1 : ((c : Int) == 95) = false := by rw [beq_eq_false_iff_ne]; omega
        have p0 : ¬ (c : Int) = 95 := by omega
        have p2 : ¬ (97 : Int) ≤ (c : Int) := by omega
        have p3 : (c : Int) ≤ 122 := by omega
        have p4 : ¬ (48 : Int) ≤ (c : Int) := by omega
        have p5 : (c : Int) ≤ 57 := by omega
        have HB : Hid (nameB s = false) := Lib.hid (name_no hlt (by rw [HO.out]; simp [letB, digB]; omega))
        by_cases hj00 : j = 0
        · have z0 : ((j : Int) == 0) = true := by rw [beq_iff_eq]; omega
          clear hr hj hj00
          skip
          go_wp2_with fail
          go_ret
          exact ⟨by rw [HB.out]; rfl, rfl⟩
        · have z0 : ((j : Int) == 0) = false := by rw [beq_eq_false_iff_ne]; omega
          clear hr hj hj00
          skip
          go_wp2_with fail
          go_ret
          exact ⟨by rw [HB.out]; rfl, rfl⟩
      · have p1 : ((c : Int) == 95) = false := by rw [beq_eq_false_iff_ne]; omega
        have p0 : ¬ (c : Int) = 95 := by omega
        have p2 : ¬ (97 : Int) ≤ (c : Int) := by omega
        have p3 : (c : Int) ≤ 122 := by omega
        have p4 : (48 : Int) ≤ (c : Int) := by omega
        have p5 : (c : Int) ≤ 57 := by omega
        by_cases hj00 : j = 0
        · have z0 : ((j : Int) == 0) = true := by rw [beq_iff_eq]; omega
          have HB : Hid (nameB s = false) := Lib.hid (name_no hlt (by rw [HO.out]; simp [letB, hj00]; first | omega | (subst hj00; omega)))
          clear hr hj hj00
          skip
          go_wp2_with fail
          go_ret
          exact ⟨by rw [HB.out]; rfl, rfl⟩
        · have z0 : ((j : Int) == 0) = false := by rw [beq_eq_false_iff_ne]; omega
          have HN : Hid (∀ q, q < j + 1 → okAt s q = true) := Lib.hid (fun q hq => by
            by_cases e : q = j
            · subst e; rw [HO.out]; simp [digB, hj00]; omega
            · exact HALL.out q (by omega))
          clear hr hj hj00
          skip
          go_wp2_with fail
          go_roundw
          case rel => exact ⟨j + 1, by have := HJ.out; omega, by go_num, by first | rfl | trivial, HN.out⟩
          case measure => have := HJ.out; simp [intOf]; omega
      · have p1 : ((c : Int) == 95) = false := by rw [beq_eq_false_iff_ne]; omega
        have p0 : ¬ (c : Int) = 95 := by omega
        have p2 : ¬ (97 : Int) ≤ (c : Int) := by omega
        have p3 : (c : Int) ≤ 122 := by omega
        have p4 : (48 : Int) ≤ (c : Int) := by omega
        have p5 : ¬ (c : Int) ≤ 57 := by omega
        have HB : Hid (nameB s = false) := Lib.hid (name_no hlt (by rw [HO.out]; simp [letB, digB]; omega))
        by_cases hj00 : j = 0
        · have z0 : ((j : Int) == 0) = true := by rw [beq_iff_eq]; omega
          clear hr hj hj00
          skip
          go_wp2_with fail
          go_ret
          exact ⟨by rw [HB.out]; rfl, rfl⟩
        · have z0 : ((j : Int) == 0) = false := by rw [beq_eq_false_iff_ne]; omega
          clear hr hj hj00
          skip
          go_wp2_with fail
          go_ret
          exact ⟨by rw [HB.out]; rfl, rfl⟩
      · have p1 : ((c : Int) == 95) = true := by rw [beq_iff_eq]; omega
        have p2 : ¬ (97 : Int) ≤ (c : Int) := by omega
        have p3 : (c : Int) ≤ 122 := by omega
        have p4 : (48 : Int) ≤ (c : Int) := by omega
        have p5 : ¬ (c : Int) ≤ 57 := by omega
        have HN : Hid (∀ q, q < j + 1 → okAt s q = true) := Lib.hid (fun q hq => by
          by_cases e : q = j
          · subst e; rw [HO.out]; simp [letB]; omega
          · exact HALL.out q (by omega))
        clear hr hj
        skip
        go_wp2_with fail
        go_roundw
        case rel => exact ⟨j + 1, by have := HJ.out; omega, by go_num, by first | rfl | trivial, HN.out⟩
        case measure => have := HJ.out; simp [intOf]; omega
      · have p1 : ((c : Int) == 95) = false := by rw [beq_eq_false_iff_ne]; omega
        have p0 : ¬ (c : Int) = 95 := by omega
        have p2 : (97 : Int) ≤ (c : Int) := by omega
        have p3 : (c : Int) ≤ 122 := by omega
        have p4 : (48 : Int) ≤ (c : Int) := by omega
        have p5 : ¬ (c : Int) ≤ 57 := by omega
        have HN : Hid (∀ q, q < j + 1 → okAt s q = true) := Lib.hid (fun q hq => by
          by_cases e : q = j
          · subst e; rw [HO.out]; simp [letB]; omega
          · exact HALL.out q (by omega))
        clear hr hj
        skip
        go_wp2_with fail
        go_roundw
        case rel => exact ⟨j + 1, by have := HJ.out; omega, by go_num, by first | rfl | trivial, HN.out⟩
        case measure => have := HJ.out; simp [intOf]; omega
      · have p1 : ((c : Int) == 95) = false := by rw [beq_eq_false_iff_ne]; omega
        have p0 : ¬ (c : Int) = 95 := by omega
        have p2 : (97 : Int) ≤ (c : Int) := by omega
        have p3 : ¬ (c : Int) ≤ 122 := by omega
        have p4 : (48 : Int) ≤ (c : Int) := by omega
        have p5 : ¬ (c : Int) ≤ 57 := by omega
        have HB : Hid (nameB s = false) := Lib.hid (name_no hlt (by rw [HO.out]; simp [letB, digB]; omega))
        by_cases hj00 : j = 0
        · have z0 : ((j : Int) == 0) = true := by rw [beq_iff_eq]; omega
          clear hr hj hj00
          skip
          go_wp2_with fail
          go_ret
          exact ⟨by rw [HB.out]; rfl, rfl⟩
        · have z0 : ((j : Int) == 0) = false := by rw [beq_eq_false_iff_ne]; omega
          clear hr hj hj00
          skip
          go_wp2_with fail
          go_ret
          exact ⟨by rw [HB.out]; rfl, rfl⟩
    · have hnl : ¬ (j : Int) < s.size := by omega
      have HB : Hid (nameB s = true) := Lib.hid (name_yes HSZ.out.1 HSZ.out.2 fun q h => HALL.out q (by omega))
      clear hj
      go_wp2_with fail
      go_ret
      exact ⟨by rw [HB.out]; rfl, rfl⟩
end Go.Proofs.Ytnpmjljpaaaljaa.Bok
