/- next, slotsEnd, Used, Room, setBegin, setSlots, New. -/
import Derived.Test.YtbpgjpopmohbmaaPageB
import Derived.Lib.BufferMore
namespace Go.Proofs.Ytbpgjpopmohbmaa.Mem
open Go.RowKit Go.Proofs.Ytbpgjpopmohbmaa.Nums
set_option linter.unusedVariables false
set_option linter.unusedSimpArgs false
set_option maxRecDepth 100000
theorem nil_nil (w : World) : (binOp .eql 31 (.slice none 0 0) (.slice none 0 0)).run Try.prog w = .ok (.bool true) w := Lib.run_eql_slice_nil_nil w _ _ Try.underlying31
theorem some_nil (a : Addr) (n c : Nat) (w : World) : (binOp .eql 31 (.slice (some a) n c) (.slice none 0 0)).run Try.prog w = .ok (.bool false) w := Lib.run_eql_slice_some_nil w _ _ _ Try.underlying31
attribute [local go_sem] nil_nil some_nil
/-- how many bytes a slot's version has -/
def szS (X : List UInt8) (s : Nat) : Nat := get2 X (6 + 4 * s)
/-- where they begin -/
def frS (X : List UInt8) (s : Nat) : Nat := get2 X (4 + 4 * s)
/-- how many slots -/
def slN (X : List UInt8) : Nat := get2 X 0
/-- where the data begin -/
def bgN (X : List UInt8) : Nat := get2 X 2
/-- the slots and what they point at lie in the page -/
structure Fine (X : List UInt8) : Prop where
  top : 4 + 4 * slN X ≤ 512
  fit : ∀ s, s < slN X → frS X s + szS X s ≤ 512
def atV (P : Nat) (X : List UInt8) (s : Nat) : Value := if szS X s = 0 then .slice none 0 0 else .slice (some ⟨P, frS X s, none⟩) (szS X s) (512 - frS X s : Nat)
theorem at_pg (P s : Nat) (X : List UInt8) (w : World) (hp : Pg w P X) (hF : Fine X) (h1 : s < slN X) :
    Calls Try.prog 71 #[.pointer (some ⟨P, 0, none⟩), .int .i64 s] w fun e w' => e = .returned (atV P X s) ∧ ∃ m, w' = w.drewN m := by
  have ht := hF.top
  unfold atV
  by_cases hz : szS X s = 0
  · rw [if_pos hz]
    exact at_free P s X w hp h1 (by omega) hz
  · rw [if_neg hz]
    exact at_some P s _ _ X w hp h1 (by omega) rfl rfl hz (hF.fit s h1)
theorem atV_free {P s : Nat} {X : List UInt8} (h : szS X s = 0) : atV P X s = .slice none 0 0 := if_pos h
theorem atV_some {P s : Nat} {X : List UInt8} (h : szS X s ≠ 0) : atV P X s = .slice (some ⟨P, frS X s, none⟩) (szS X s) (512 - frS X s : Nat) := if_neg h
/-- the slot that one more takes -/
structure IsNext (X : List UInt8) (q : Nat) : Prop where
  le : q ≤ slN X
  full : ∀ j, j < q → szS X j ≠ 0
  free : q < slN X → szS X q = 0
theorem next_pg (P : Nat) (X : List UInt8) (w : World) (hp : Pg w P X) (hF : Fine X) :
    Calls Try.prog 70 #[.pointer (some ⟨P, 0, none⟩)] w fun e w' => ∃ q : Nat, e = .returned (.int .i64 q) ∧ IsNext X q ∧ ∃ m, w' = w.drewN m := by
  have HP := Lib.hid hp
  have HF := Lib.hid hF
  have ht := hF.top
  have CS := Lib.hid (slots_pg P X w hp)
  have e : get2 X 0 = slN X := rfl
  rw [e] at CS
  clear hp hF e
  obtain ⟨G, hG⟩ : ∃ G, slN X = G := ⟨_, rfl⟩
  have HG := Lib.hid hG
  rw [hG] at CS ht
  clear hG
  go_enter Try.func70, Try.ntmps70
  go_wp2_with fail
  refine CS.out.mono ?_
  rintro e w1 ⟨rfl, rfl⟩
  go_wp2_with fail
  go_loopw [6] (fun i wr => ∃ k m : Nat, k ≤ G ∧ i = .int .i64 k ∧ (∀ j, j < k → szS X j ≠ 0) ∧ wr = w.drewN m) (fun i _ => G - (intOf i).toNat)
  case atStart => exact ⟨0, 0, by omega, rfl, fun j hj => absurd hj (by omega), rfl⟩
  case round =>
    obtain ⟨k, m, hk, rfl, hall, rfl⟩ := hrel
    have HA := Lib.hid hall
    clear hall
    by_cases hlt : k < G
    · have hlt' : (k : Int) < G := by omega
      have CA := Lib.hid (at_pg P k X (w.drewN m) (HP.out.drewN m) HF.out (by rw [HG.out]; exact hlt))
      by_cases hz : szS X k = 0
      · rw [atV_free hz] at CA
        have HZ := Lib.hid hz
        clear hz
        go_wp2_with fail
        refine CA.out.mono ?_
        rintro e w2 ⟨rfl, m2, rfl⟩
        go_wp2_with fail
        go_ret
        exact ⟨k, rfl, ⟨by rw [HG.out]; exact hk, HA.out, fun _ => HZ.out⟩, _, rfl⟩
      · rw [atV_some hz] at CA
        have HZ := Lib.hid hz
        clear hz
        go_wp2_with fail
        refine CA.out.mono ?_
        rintro e w2 ⟨rfl, m2, rfl⟩
        go_wp2_with fail
        go_roundw
        case rel =>
          refine ⟨k + 1, m + m2, by omega, by go_num, ?_, rfl⟩
          intro j hj
          rcases Nat.lt_or_ge j k with h | h
          · exact HA.out j h
          · obtain rfl : j = k := by omega
            exact HZ.out
        case measure => simp [intOf] <;> omega
    · obtain rfl : k = G := by omega
      have CS := Lib.hid (slots_pg P X (w.drewN m) (HP.out.drewN m))
      have e : get2 X 0 = slN X := rfl
      rw [e, HG.out] at CS
      clear e
      go_wp2_with fail
      refine CS.out.mono ?_
      rintro e w2 ⟨rfl, rfl⟩
      go_wp2_with fail
      go_ret
      exact ⟨k, rfl, ⟨by rw [HG.out]; exact Nat.le_refl _, HA.out, fun h => by rw [HG.out] at h; omega⟩, m, rfl⟩
theorem slotsEnd_pg (P q : Nat) (X : List UInt8) (w : World) (hp : Pg w P X) (hF : Fine X) (hq : q ≤ 127) :
    Calls Try.prog 69 #[.pointer (some ⟨P, 0, none⟩), .int .i64 q] w fun e w' => e = .returned (.int .i64 (4 + 4 * max (slN X) (q + 1) : Nat)) ∧ w = w' := by
  have ht := hF.top
  have CS := Lib.hid (slots_pg P X w hp)
  have e : get2 X 0 = slN X := rfl
  rw [e] at CS
  clear e hp hF
  generalize slN X = G at *
  rcases Nat.lt_or_ge q G with h | h
  · have hm : max G (q + 1) = G := by omega
    have h1 : (q : Int) + 1 ≤ G := by omega
    rw [hm]
    clear hm h
    go_enter Try.func69, Try.ntmps69
    go_wp2_with fail
    refine CS.out.mono ?_
    rintro e w1 ⟨rfl, rfl⟩
    go_wp2_with fail
    all_goals first
      | (go_ret; exact ⟨by simp only []; go_num, rfl⟩)
      | (exfalso; omega)
  · have hm : max G (q + 1) = q + 1 := by omega
    have h1 : (G : Int) < (q : Int) + 1 := by omega
    rw [hm]
    clear hm h
    go_enter Try.func69, Try.ntmps69
    go_wp2_with fail
    refine CS.out.mono ?_
    rintro e w1 ⟨rfl, rfl⟩
    go_wp2_with fail
    all_goals first
      | (go_ret; exact ⟨by simp only []; go_num, rfl⟩)
      | (exfalso; omega)
theorem neq_nil_nil (w : World) : (binOp .neq 31 (.slice none 0 0) (.slice none 0 0)).run Try.prog w = .ok (.bool false) w := run_neq_slice_nil_any w _ _ _ _ _ _ _ Try.underlying31
theorem neq_some_nil (a : Addr) (n c : Nat) (w : World) : (binOp .neq 31 (.slice (some a) n c) (.slice none 0 0)).run Try.prog w = .ok (.bool true) w := run_neq_slice_nil_any w _ _ _ _ _ _ _ Try.underlying31
attribute [local go_sem] neq_nil_nil neq_some_nil
/-- how many of the first slots are not free -/
def usN (X : List UInt8) : Nat → Nat
  | 0 => 0
  | k + 1 => usN X k + if szS X k = 0 then 0 else 1
theorem usN_le (X : List UInt8) : ∀ k, usN X k ≤ k
  | 0 => Nat.le_refl _
  | k + 1 => by have := usN_le X k; unfold usN; split <;> omega
/-- how many bytes the first slots' versions have -/
def suN (X : List UInt8) : Nat → Nat
  | 0 => 0
  | k + 1 => suN X k + szS X k
theorem suN_le {X : List UInt8} (hF : Fine X) : ∀ k, k ≤ slN X → suN X k ≤ 512 * k
  | 0, _ => Nat.zero_le _
  | k + 1, h => by
    have h1 := suN_le hF k (by omega)
    have h2 := hF.fit k (by omega)
    unfold suN
    omega
theorem used_pg (P : Nat) (X : List UInt8) (w : World) (hp : Pg w P X) (hF : Fine X) :
    Calls Try.prog 23 #[.pointer (some ⟨P, 0, none⟩)] w fun e w' => e = .returned (.int .i64 (usN X (slN X) : Nat)) ∧ ∃ m, w' = w.drewN m := by
  have HP := Lib.hid hp
  have HF := Lib.hid hF
  have ht := hF.top
  have CS := Lib.hid (slots_pg P X w hp)
  have e : get2 X 0 = slN X := rfl
  rw [e] at CS
  clear hp hF e
  obtain ⟨G, hG⟩ : ∃ G, slN X = G := ⟨_, rfl⟩
  have HG := Lib.hid hG
  rw [hG] at CS ht ⊢
  clear hG
  go_enter Try.func23, Try.ntmps23
  go_wp2_with fail
  refine CS.out.mono ?_
  rintro e w1 ⟨rfl, rfl⟩
  go_wp2_with fail
  go_loopw [3, 7] (fun u i wr => ∃ k m : Nat, k ≤ G ∧ i = .int .i64 k ∧ u = .int .i64 (usN X k : Nat) ∧ wr = w.drewN m) (fun _ i _ => G - (intOf i).toNat)
  case atStart => exact ⟨0, 0, by omega, rfl, rfl, rfl⟩
  case round =>
    obtain ⟨k, m, hk, rfl, rfl, rfl⟩ := hrel
    by_cases hlt : k < G
    · have hlt' : (k : Int) < G := by omega
      have hle := usN_le X k
      have CA := Lib.hid (at_pg P k X (w.drewN m) (HP.out.drewN m) HF.out (by rw [HG.out]; exact hlt))
      have HU : Hid (usN X (k + 1) = usN X k + if szS X k = 0 then 0 else 1) := Lib.hid rfl
      generalize usN X k = U at *
      by_cases hz : szS X k = 0
      · rw [atV_free hz] at CA
        rw [if_pos hz] at HU
        clear hz
        go_wp2_with fail
        refine CA.out.mono ?_
        rintro e w2 ⟨rfl, m2, rfl⟩
        go_wp2_with fail
        go_roundw
        case rel => exact ⟨k + 1, m + m2, by omega, by go_num, by rw [HU.out]; rfl, rfl⟩
        case measure => simp [intOf] <;> omega
      · rw [atV_some hz] at CA
        rw [if_neg hz] at HU
        clear hz
        go_wp2_with fail
        refine CA.out.mono ?_
        rintro e w2 ⟨rfl, m2, rfl⟩
        go_wp2_with fail
        go_roundw
        case rel => exact ⟨k + 1, m + m2, by omega, by go_num, by rw [HU.out]; go_num, rfl⟩
        case measure => simp [intOf] <;> omega
    · obtain rfl : k = G := by omega
      go_wp2_with fail
      go_ret
      exact ⟨rfl, m, rfl⟩
theorem used_nil (w : World) : Calls Try.prog 23 #[.pointer none] w fun e w' => e = .returned (.int .i64 0) ∧ w = w' := by
  have CS := Lib.hid (slots_nil w)
  go_enter Try.func23, Try.ntmps23
  go_wp2_with fail
  refine CS.out.mono ?_
  rintro e w1 ⟨rfl, rfl⟩
  go_wp2_with fail
  go_loopw [3, 7] (fun u i wr => u = .int .i64 0 ∧ i = .int .i64 0 ∧ wr = w) (fun _ i _ => 0)
  case atStart => exact ⟨rfl, rfl, rfl⟩
  case round =>
    obtain ⟨rfl, rfl, rfl⟩ := hrel
    go_wp2_with fail
    go_ret
    exact ⟨rfl, rfl⟩
theorem room_nil (w : World) : Calls Try.prog 21 #[.pointer none] w fun e w' => e = .returned (.int .i64 (-1)) ∧ w = w' := by
  go_enter Try.func21, Try.ntmps21
  go_wp2_with fail
  go_ret
  exact ⟨rfl, rfl⟩
theorem room_pg (P : Nat) (X : List UInt8) (w : World) (hp : Pg w P X) (hF : Fine X) :
    Calls Try.prog 21 #[.pointer (some ⟨P, 0, none⟩)] w fun e w' => ∃ q : Nat, IsNext X q ∧ e = .returned (.int .i64 (max (478 - 4 * (max (slN X) (q + 1) : Nat) - (suN X (slN X) : Nat)) (-1))) ∧ ∃ m, w' = w.drewN m := by
  have HP := Lib.hid hp
  have HF := Lib.hid hF
  have ht := hF.top
  have CN := Lib.hid (next_pg P X w hp hF)
  clear hp hF
  obtain ⟨G, hG⟩ : ∃ G, slN X = G := ⟨_, rfl⟩
  have HG := Lib.hid hG
  rw [hG] at ht ⊢
  clear hG
  go_enter Try.func21, Try.ntmps21
  go_wp2_with fail
  refine CN.out.mono ?_
  rintro e w1 ⟨q, rfl, hq, m0, rfl⟩
  have HQ := Lib.hid hq
  have hqle := hq.le
  rw [HG.out] at hqle
  clear hq
  have CE := Lib.hid (slotsEnd_pg P q X (w.drewN m0) (HP.out.drewN m0) HF.out (by omega))
  rw [HG.out] at CE
  obtain ⟨M, hM⟩ : ∃ M, max G (q + 1) = M := ⟨_, rfl⟩
  have HM := Lib.hid hM
  have hMb : M ≤ 128 := by omega
  rw [hM] at CE
  clear hM
  go_wp2_with fail
  refine CE.out.mono ?_
  rintro e w2 ⟨rfl, rfl⟩
  have CS := Lib.hid (slots_pg P X (w.drewN m0) (HP.out.drewN m0))
  have e : get2 X 0 = slN X := rfl
  rw [e, HG.out] at CS
  clear e
  go_wp2_with fail
  refine CS.out.mono ?_
  rintro e w2 ⟨rfl, rfl⟩
  go_wp2_with fail
  go_loopw [3, 15] (fun u i wr => ∃ k m : Nat, k ≤ G ∧ i = .int .i64 k ∧ u = .int .i64 (478 - 4 * (M : Int) - (suN X k : Nat)) ∧ wr = w.drewN m) (fun _ i _ => G - (intOf i).toNat)
  case atStart => exact ⟨0, m0, by omega, rfl, by simp only [suN]; go_num, rfl⟩
  case round =>
    obtain ⟨k, m, hk, rfl, rfl, rfl⟩ := hrel
    have hsu := suN_le HF.out k (by rw [HG.out]; exact hk)
    by_cases hlt : k < G
    · have hlt' : (k : Int) < G := by omega
      have CA := Lib.hid (at_pg P k X (w.drewN m) (HP.out.drewN m) HF.out (by rw [HG.out]; exact hlt))
      have HU : Hid (suN X (k + 1) = suN X k + szS X k) := Lib.hid rfl
      have hfit := HF.out.fit k (by rw [HG.out]; exact hlt)
      generalize suN X k = U at *
      by_cases hz : szS X k = 0
      · rw [atV_free hz] at CA
        rw [hz] at HU
        clear hz hfit
        go_wp2_with fail
        refine CA.out.mono ?_
        rintro e w2 ⟨rfl, m2, rfl⟩
        go_wp2_with fail
        go_roundw
        case rel => exact ⟨k + 1, m + m2, by omega, by go_num, by rw [HU.out]; go_num, rfl⟩
        case measure => simp [intOf] <;> omega
      · rw [atV_some hz] at CA
        generalize szS X k = Z at *
        generalize frS X k = F at *
        clear hz
        go_wp2_with fail
        refine CA.out.mono ?_
        rintro e w2 ⟨rfl, m2, rfl⟩
        go_wp2_with fail
        go_roundw
        case rel => exact ⟨k + 1, m + m2, by omega, by go_num, by rw [HU.out]; go_num, rfl⟩
        case measure => simp [intOf] <;> omega
    · obtain rfl : k = G := by omega
      have HR : Hid (((478 : Int) - 4 * (max k (q + 1) : Nat) - (suN X k : Nat)) = 478 - 4 * (M : Int) - (suN X k : Nat)) := Lib.hid (by rw [HM.out])
      by_cases h : 478 - 4 * (M : Int) - (suN X k : Nat) < -1
      · have HX : Hid (max (478 - 4 * (M : Int) - (suN X k : Nat)) (-1) = -1) := Lib.hid (by omega)
        go_wp2_with fail
        all_goals first
          | (go_ret; exact ⟨q, HQ.out, by rw [HR.out, HX.out]; rfl, m, rfl⟩)
          | (exfalso; omega)
      · have HX : Hid (max (478 - 4 * (M : Int) - (suN X k : Nat)) (-1) = 478 - 4 * (M : Int) - (suN X k : Nat)) := Lib.hid (by omega)
        go_wp2_with fail
        all_goals first
          | (go_ret; exact ⟨q, HQ.out, by rw [HR.out, HX.out]; rfl, m, rfl⟩)
          | (exfalso; omega)
end Go.Proofs.Ytbpgjpopmohbmaa.Mem
