/- Page.Free. -/
import Derived.Test.YtbpgjpopmohbmaaPageJ
import Derived.Lib.SliceRun
namespace Go.Proofs.Ytbpgjpopmohbmaa.Mem
open Go.RowKit Go.Proofs.Ytbpgjpopmohbmaa.Nums
set_option linter.unusedVariables false
set_option linter.unusedSimpArgs false
set_option maxRecDepth 100000
set_option maxHeartbeats 1000000
attribute [local go_sem] nil_nil some_nil
theorem zero5 (w : World) : (zeroValue 5).run Try.prog w = .ok (.int .u8 0) w := by
  obtain ⟨i, hi, hz0, hz1, hz2⟩ := info_part info5
  simp [zeroValue, typeInfo, hi, hz0]
theorem run_clear_bb (g : Nat) (t : TypeId) (X : List UInt8) (a n c : Nat) (w : World) (hb : BB w g t X) (hn : 0 < n) (hX : a + n ≤ X.length) :
    ∃ w1, (∀ ty, (Builtin.clear_ #[31] ty #[.slice (some ⟨g, a, none⟩) n c]).run Try.prog w = .ok (.tuple #[]) w1) ∧ BB w1 g t (lay X a (List.replicate n 0)) ∧ Only g w w1 := by
  refine ⟨w.setRow g (u8s (lay X a (List.replicate n 0))).toArray, fun ty => ?_, setRow_heap w g _ _ t _ hb, ⟨rfl, rfl, rfl, by simp [World.setRow], fun k _ hk => setRow_other w g k _ hk⟩⟩
  have hst := run_storeCells_at Try.prog g a t (u8s (List.replicate n 0)) 0 (u8s X).toArray w hb (by rw [List.size_toArray, u8s_len, u8s_len, List.length_replicate]; omega) (u8s_one _)
  have hzc : (Builtin.zeroCells (Value.int .u8 0).cells n).toList = u8s (List.replicate n 0) := by
    show (Builtin.zeroCells #[Value.int .u8 0] n).toList = _
    unfold u8s
    rw [List.map_replicate]
    simp [Builtin.zeroCells]
    apply List.ext_getElem
    · simp
    · intro i h1 h2
      simp [Nat.mod_one]
  rw [lay_splice]
  unfold splice
  simp only [Nat.add_zero, List.toList_toArray, List.append_assoc] at hst
  obtain ⟨m, rfl⟩ : ∃ m, n = m + 1 := ⟨n - 1, by omega⟩
  simp [Builtin.clear_, run_underlying Try.underlying31, zero5, hzc, hst]
theorem get2_zero {Y : List UInt8} {c : Nat} (h0 : Y[c]? = some 0) (h1 : Y[c + 1]? = some 0) : get2 Y c = 0 := by
  unfold get2
  obtain ⟨l0, e0⟩ := List.getElem?_eq_some_iff.1 h0
  obtain ⟨l1, e1⟩ := List.getElem?_eq_some_iff.1 h1
  rw [List.drop_eq_getElem_cons l0, List.drop_eq_getElem_cons l1, e0, e1]
  rfl
/-- the page with a slot's bytes and its version's made 0 -/
def freeL (X : List UInt8) (s f z : Nat) : List UInt8 := lay (lay X f (List.replicate z 0)) (4 + 4 * s) (List.replicate 4 0)
section
variable {X : List UInt8} {s f z : Nat}
theorem freeL_len (hX : X.length = 512) (h1 : f + z ≤ 512) (h2 : 8 + 4 * s ≤ 512) : (freeL X s f z).length = 512 := by
  unfold freeL
  have e1 := lay_len (X := X) (b := List.replicate z 0) (a := f) (by rw [List.length_replicate]; omega)
  rw [lay_len (by rw [List.length_replicate, e1]; omega), e1, hX]
theorem freeL_other (hX : X.length = 512) (h1 : f + z ≤ 512) (h2 : 8 + 4 * s ≤ 512) {c : Nat} (hc : c + 2 ≤ f) (hs : c + 2 ≤ 4 + 4 * s ∨ 8 + 4 * s ≤ c) : get2 (freeL X s f z) c = get2 X c := by
  unfold freeL
  have e1 := lay_len (X := X) (b := List.replicate z 0) (a := f) (by rw [List.length_replicate]; omega)
  rw [get2_other (by rw [List.length_replicate, e1]; omega) (by rw [List.length_replicate]; omega), get2_other (by rw [List.length_replicate]; omega) (by omega)]
theorem freeL_zero (hX : X.length = 512) (h1 : f + z ≤ 512) (h2 : 8 + 4 * s ≤ 512) {i : Nat} (hi : i ≤ 2) : get2 (freeL X s f z) (4 + 4 * s + i) = 0 := by
  unfold freeL
  have e1 := lay_len (X := X) (b := List.replicate z 0) (a := f) (by rw [List.length_replicate]; omega)
  have hl : 4 + 4 * s + (List.replicate 4 (0 : UInt8)).length ≤ (lay X f (List.replicate z 0)).length := by rw [List.length_replicate, e1]; omega
  refine get2_zero ?_ ?_
  · rw [lay_get hl (by rw [List.length_replicate]; omega), List.getElem?_replicate, if_pos (by omega)]
  · rw [Nat.add_assoc, lay_get hl (by rw [List.length_replicate]; omega), List.getElem?_replicate, if_pos (by omega)]
theorem freeL_slN (hX : X.length = 512) (h1 : f + z ≤ 512) (h2 : 8 + 4 * s ≤ 512) (hf : 2 ≤ f) : slN (freeL X s f z) = slN X := freeL_other hX h1 h2 (by omega) (by omega)
theorem freeL_fine (hX : X.length = 512) (hF : Fine X) (hs : s < slN X) (h1 : f + z ≤ 512) (hlow : 4 + 4 * slN X ≤ f) : Fine (freeL X s f z) := by
  have htop := hF.top
  have h2 : 8 + 4 * s ≤ 512 := by omega
  have hsl := freeL_slN hX h1 h2 (by omega)
  refine ⟨by rw [hsl]; exact htop, fun j hj => ?_⟩
  rw [hsl] at hj
  by_cases he : j = s
  · subst he
    have a1 : frS (freeL X j f z) j = 0 := freeL_zero hX h1 h2 (i := 0) (by omega)
    have a2 : szS (freeL X j f z) j = 0 := by
      unfold szS
      rw [show 6 + 4 * j = 4 + 4 * j + 2 by omega]
      exact freeL_zero hX h1 h2 (by omega)
    omega
  · have a1 : frS (freeL X s f z) j = frS X j := freeL_other hX h1 h2 (by omega) (by omega)
    have a2 : szS (freeL X s f z) j = szS X j := freeL_other hX h1 h2 (by omega) (by omega)
    rw [a1, a2]
    exact hF.fit j hj
end
theorem free_pg (P s f z : Nat) (X : List UInt8) (w : World) (hp : Pg w P X) (hF : Fine X) (h1 : s < slN X) (hf : frS X s = f) (hz : szS X s = z) (h0 : z ≠ 0) (hlow : 4 + 4 * slN X ≤ f) :
    Calls Try.prog 35 #[.pointer (some ⟨P, 0, none⟩), .int .i64 s] w fun e w' => e = .returned (.int .i64 0) ∧ ∃ k, k ≤ slN X ∧ (∀ j, k ≤ j → j < slN X → szS (freeL X s f z) j = 0) ∧ (0 < k → szS (freeL X s f z) (k - 1) ≠ 0) ∧ Pg w' P (lay (freeL X s f z) 0 (nb k 2)) ∧ Only P w w' := by
  have htop := hF.top
  have hfit := hF.fit s h1
  rw [hf, hz] at hfit
  have CA := Lib.hid (at_pg P s X w hp hF h1)
  rw [atV_some (by rw [hz]; exact h0), hf, hz] at CA
  have h28 : 8 + 4 * s ≤ 512 := by omega
  have HFY := Lib.hid (freeL_fine hp.2 hF h1 hfit hlow)
  have HSL := Lib.hid (freeL_slN hp.2 hfit h28 (by omega))
  have HLY := Lib.hid (freeL_len hp.2 hfit h28)
  have HP := Lib.hid hp
  have e1 := lay_len (X := X) (b := List.replicate z 0) (a := f) (by rw [List.length_replicate, hp.2]; omega)
  have HL1 := Lib.hid (e1.trans hp.2)
  obtain ⟨G, hG⟩ : ∃ G, slN X = G := ⟨_, rfl⟩
  rw [hG] at HSL h1 htop hlow ⊢
  clear hp hF hf hz e1 hG
  go_enter Try.func35, Try.ntmps35
  go_wp2_with fail
  refine CA.out.mono ?_
  rintro e w2 ⟨rfl, m, rfl⟩
  obtain ⟨wa, hca, hba, hoa⟩ := run_clear_bb P 113 X f z (512 - f) (w.drewN m) (HP.out.drewN m).1 (by omega) (by rw [HP.out.2]; exact hfit)
  have HA := Lib.hid hba
  have HOA : Hid (Only P w wa) := Lib.hid ((show Only P w (w.drewN m) from ⟨rfl, rfl, rfl, Nat.le_refl _, fun _ _ _ => rfl⟩).trans hoa)
  clear hba hoa
  go_wp2_with fail
  clear hca
  refine (slot_pg P s _ (by omega)).mono ?_
  rintro e w3 ⟨rfl, rfl⟩
  obtain ⟨wb, hcb, hbb, hob⟩ := run_clear_bb P 113 _ (4 + 4 * s) 4 (512 - (4 + 4 * s)) wa HA.out (by omega) (by rw [HL1.out]; omega)
  have HB : Hid (Pg wb P (freeL X s f z)) := Lib.hid ⟨hbb, HLY.out⟩
  have HOB := Lib.hid (HOA.out.trans hob)
  clear hbb hob
  go_wp2_with fail
  clear hcb
  have CS := Lib.hid (slots_pg P _ wb HB.out)
  have e : get2 (freeL X s f z) 0 = slN (freeL X s f z) := rfl
  rw [e, HSL.out] at CS
  clear e
  refine CS.out.mono ?_
  rintro e w4 ⟨rfl, rfl⟩
  go_wp2_with fail
  go_loopw [6] (fun i wr => ∃ k m : Nat, k ≤ G ∧ i = .int .i64 k ∧ (∀ j, k ≤ j → j < G → szS (freeL X s f z) j = 0) ∧ wr = wb.drewN m) (fun i _ => (intOf i).toNat)
  case atStart => exact ⟨G, 0, Nat.le_refl _, rfl, fun j h1 h2 => absurd h2 (by omega), rfl⟩
  case round =>
    obtain ⟨k, m, hk, rfl, hall, rfl⟩ := hrel
    have HALL := Lib.hid hall
    clear hall
    have HPK : Hid (Pg (wb.drewN m) P (freeL X s f z)) := Lib.hid (HB.out.drewN m)
    have HOK : Hid (Only P w (wb.drewN m)) := Lib.hid (HOB.out.trans ⟨rfl, rfl, rfl, Nat.le_refl _, fun _ _ _ => rfl⟩)
    cases k with
    | zero =>
      go_wp2_with fail
      refine (setSlots_pg P 0 _ _ HPK.out (by omega)).mono ?_
      rintro e w5 ⟨rfl, h5, ho5⟩
      have H5 := Lib.hid h5
      have HO5 := Lib.hid (HOK.out.trans ho5)
      clear h5 ho5
      go_wp2_with fail
      go_ret
      exact ⟨rfl, 0, by omega, HALL.out, fun h => absurd h (by omega), H5.out, HO5.out⟩
    | succ k =>
      have CK := Lib.hid (at_pg P k _ _ HPK.out HFY.out (by rw [HSL.out]; omega))
      have hkp : (0 : Int) < (k : Int) + 1 := by omega
      have hkb : (k : Int) ≤ 127 := by omega
      by_cases hz : szS (freeL X s f z) k = 0
      · rw [atV_free hz] at CK
        have HZ := Lib.hid hz
        clear hz
        go_wp2_with fail
        refine CK.out.mono ?_
        rintro e w5 ⟨rfl, m2, rfl⟩
        go_wp2_with fail
        go_roundw
        case rel =>
          refine ⟨k, m + m2, by omega, by go_num, ?_, rfl⟩
          intro j h1 h2
          rcases Nat.lt_or_ge k j with h | h
          · exact HALL.out j h h2
          · obtain rfl : j = k := by omega
            exact HZ.out
        case measure => simp [intOf] <;> omega
      · rw [atV_some hz] at CK
        have HZ := Lib.hid hz
        clear hz
        go_wp2_with fail
        refine CK.out.mono ?_
        rintro e w5 ⟨rfl, m2, rfl⟩
        go_wp2_with fail
        refine (setSlots_pg P (k + 1) _ _ (HB.out.drewN (m + m2)) (by omega)).mono ?_
        rintro e w6 ⟨rfl, h5, ho5⟩
        have H5 := Lib.hid h5
        have HO5 := Lib.hid ((HOB.out.trans (show Only P wb (wb.drewN (m + m2)) from ⟨rfl, rfl, rfl, Nat.le_refl _, fun _ _ _ => rfl⟩)).trans ho5)
        clear h5 ho5
        go_wp2_with fail
        go_ret
        exact ⟨rfl, k + 1, hk, HALL.out, fun _ => HZ.out, H5.out, HO5.out⟩
end Go.Proofs.Ytbpgjpopmohbmaa.Mem
