/- Texts LoadC to LoadK, one behind the other. -/
import Derived.Test.YtbkdbnkakjogjaaMPLO3
import Derived.Deep.RegionHeld3
import Derived.Deep.CutRange
/- the marks that rightData makes: which bytes are of a version. -/
namespace Go.Proofs.Ytbkdbnkakjogjaa.Mem
open Go.RowKit Go.Proofs.Ytbkdbnkakjogjaa.Nums
set_option linter.unusedVariables false
set_option linter.unusedSimpArgs false
set_option maxRecDepth 100000
set_option maxHeartbeats 1000000
/-- is byte i of one of the first k slots' versions? -/
def mkf (L : SL) : Nat → Nat → Bool
  | 0, _ => false
  | k + 1, i => mkf L k i || match (L[k]?).join with
    | none => false
    | some (v, f) => decide (f ≤ i) && decide (i < f + v.sz)
section
variable {X : List UInt8} {L : SL} {st : Nat}
theorem mkf_none {k : Nat} (h : L[k]? = some none) : mkf L (k + 1) = mkf L k := by
  funext i
  show (mkf L k i || match (L[k]?).join with | none => false | some (v, f) => _) = _
  rw [h]
  exact Bool.or_false _
theorem mkf_some {k : Nat} {v : Ver} {f : Nat} (h : L[k]? = some (some (v, f))) (i : Nat) : mkf L (k + 1) i = (mkf L k i || (decide (f ≤ i) && decide (i < f + v.sz))) := by
  show (mkf L k i || match (L[k]?).join with | none => false | some (v, f) => _) = _
  rw [h]
  rfl
theorem mkf_true : ∀ {k i : Nat}, mkf L k i = true → ∃ (j : Nat) (v : Ver) (f : Nat), j < k ∧ L[j]? = some (some (v, f)) ∧ f ≤ i ∧ i < f + v.sz
  | 0, i, h => by cases h
  | k + 1, i, h => by
    cases ho : (L[k]?).join with
    | none =>
      have e : mkf L (k + 1) i = (mkf L k i || false) := by
        show (mkf L k i || match (L[k]?).join with | none => false | some (v, f) => _) = _
        rw [ho]
      rw [e, Bool.or_false] at h
      obtain ⟨j, v, f, hj, hr⟩ := mkf_true h
      exact ⟨j, v, f, by omega, hr⟩
    | some x =>
      obtain ⟨v, f⟩ := x
      have hk : L[k]? = some (some (v, f)) := by
        cases hl : L[k]? with
        | none => rw [hl] at ho; cases ho
        | some o =>
          rw [hl] at ho
          exact congrArg some ho
      rw [mkf_some hk, Bool.or_eq_true, Bool.and_eq_true, decide_eq_true_eq, decide_eq_true_eq] at h
      rcases h with h | ⟨h1, h2⟩
      · obtain ⟨j, v, f, hj, hr⟩ := mkf_true h
        exact ⟨j, v, f, by omega, hr⟩
      · exact ⟨k, v, f, by omega, hk, h1, h2⟩
theorem mkf_mem : ∀ {k i j : Nat} {v : Ver} {f : Nat}, j < k → L[j]? = some (some (v, f)) → f ≤ i → i < f + v.sz → mkf L k i = true
  | 0, _, _, _, _, h, _, _, _ => absurd h (by omega)
  | k + 1, i, j, v, f, h, hj, h1, h2 => by
    by_cases e : j = k
    · subst e
      rw [mkf_some hj, decide_eq_true h1, decide_eq_true h2]
      simp
    · have h3 := mkf_mem (i := i) (show j < k by omega) hj h1 h2
      show (mkf L k i || _) = true
      rw [h3]
      rfl
/-- no byte of a slot's version is another one's -/
theorem Has.fresh (h : Has X L st) {k i : Nat} {v : Ver} {f : Nat} (hk : L[k]? = some (some (v, f))) (h1 : f ≤ i) (h2 : i < f + v.sz) : mkf L k i = false := by
  cases hm : mkf L k i with
  | false => rfl
  | true =>
    obtain ⟨j, v', f', hj, hv, h3, h4⟩ := mkf_true hm
    rcases h.apart j k v' f' v f hv hk (by omega) with h5 | h5 <;> omega
/-- what no version has is 0 -/
theorem Has.zero (h : Has X L st) {i : Nat} (h1 : 4 + 4 * L.length ≤ i) (h2 : i < 512) (hm : mkf L L.length i = false) : X[i]? = some 0 := by
  refine h.rest i h1 h2 fun s v f hs => ?_
  apply Classical.byContradiction
  intro hn
  have hl := (List.getElem?_eq_some_iff.1 hs).1
  rw [mkf_mem hl hs (by omega) (by omega)] at hm
  cases hm
end
/-- a block of 512 marks -/
def MB (w : World) (g : Nat) (t : TypeId) (m : Nat → Bool) : Prop := Blk w g t ((List.range 512).map fun i => Value.bool (m i)).toArray
theorem MB.cell {w : World} {g : Nat} {t : TypeId} {m : Nat → Bool} (h : MB w g t m) {i : Nat} (hi : i < 512) : w.cell? ⟨g, i, none⟩ = some (.bool (m i)) := by
  rw [Blk.cell h]
  simp [hi]
theorem MB.put {w : World} {g : Nat} {t : TypeId} {m : Nat → Bool} (h : MB w g t m) (i : Nat) : MB (w.setCell ⟨g, i, none⟩ (.bool true)) g t (fun j => m j || j == i) := by
  have hp := Blk.set_ h i (.bool true)
  have e : ((List.range 512).map fun j => Value.bool (m j)).toArray.setIfInBounds i (.bool true) = ((List.range 512).map fun j => Value.bool (m j || j == i)).toArray := by
    apply Array.toList_inj.1
    rw [Array.toList_setIfInBounds]
    apply List.ext_getElem?
    intro j
    by_cases hj : j < 512
    · by_cases hij : i = j
      · subst hij
        simp [hj]
      · simp [hj, List.getElem?_set, hij, Ne.symm hij]
    · simp [hj, List.getElem?_set]
  rw [e] at hp
  exact hp
end Go.Proofs.Ytbkdbnkakjogjaa.Mem
/- page.rightData of a page that Has. -/
namespace Go.Proofs.Ytbkdbnkakjogjaa.Mem
open Go.RowKit Go.Proofs.Ytbkdbnkakjogjaa.Nums
set_option linter.unusedVariables false
set_option linter.unusedSimpArgs false
set_option maxRecDepth 100000
set_option maxHeartbeats 1000000
theorem Has.frB {X : List UInt8} {L : SL} {st : Nat} (h : Has X L st) {s : Nat} {o : Option (Ver × Nat)} (hs : L[s]? = some o) : Mem.frB X s = o.isNone := by
  have h1 := h.szS hs
  unfold Mem.frB
  cases o with
  | none =>
    have h2 := h.frS0 hs
    have e1 : get2 X (4 + 4 * s) = 0 := h2
    have e2 : get2 X (6 + 4 * s) = 0 := h1
    rw [e1, e2]
    rfl
  | some x =>
    obtain ⟨v, f⟩ := x
    have e2 : get2 X (6 + 4 * s) = v.sz := h1
    have e3 : (v.sz == 0) = false := by rw [beq_eq_false_iff_ne]; unfold Ver.sz; omega
    rw [e2, e3, Bool.and_false]
    rfl
theorem zero_mb : Try.zeroCells154 = ((List.range 512).map fun _ => Value.bool false).toArray := by kernel_rfl
theorem rightData_has {P : Nat} {X : List UInt8} {L : SL} {st : Nat} {w : World} (hp : Pg w P X) (h : Has X L st) :
    Calls Try.prog 75 #[.pointer (some ⟨P, 0, none⟩)] w fun e w' => e = .returned (.bool true) ∧ Below w.heap.size w w' := by
  have HX := Lib.hid h
  have htop := h.top
  have hall := h.all
  have CS : Hid (∀ w0, Pg w0 P X → Calls Try.prog 25 #[.pointer (some ⟨P, 0, none⟩)] w0 fun e w' => e = .returned (.int .i64 (L.length : Nat)) ∧ w0 = w') := Lib.hid (fun w0 h0 => by
    have h1 := slots_pg P X w0 h0
    have e : get2 X 0 = L.length := h.slN
    rw [e] at h1
    exact h1)
  have CB : Hid (∀ w0, Pg w0 P X → Calls Try.prog 79 #[.pointer (some ⟨P, 0, none⟩)] w0 fun e w' => e = .returned (.int .i64 (st : Nat)) ∧ w0 = w') := Lib.hid (fun w0 h0 => by
    have h1 := begin_pg P X w0 h0
    have e : get2 X 2 = st := h.bgN
    rw [e] at h1
    exact h1)
  obtain ⟨b0, hb0⟩ : ∃ b0, w.heap.size = b0 := ⟨_, rfl⟩
  obtain ⟨W1, hW1⟩ : ∃ W1, w.alloc (.cells Try.zeroCells154 154) = W1 := ⟨_, rfl⟩
  have HW1 := Lib.hid hW1
  have HB0 := Lib.hid hb0
  have HM1 : Hid (MB W1 b0 154 (mkf L 0)) := Lib.hid (by rw [← hW1, ← hb0, zero_mb]; exact Blk.new w _ _)
  have HP1 : Hid (Pg W1 P X) := Lib.hid (by rw [← hW1]; exact ⟨Blk.alloc hp.1 _, hp.2⟩)
  have HBl1 : Hid (Below b0 w W1) := Lib.hid (by rw [← hW1, ← hb0]; exact bel_alloc _ _)
  have hPb : P < b0 := by rw [← hb0]; exact Blk.lt hp.1
  rw [hb0]
  clear hp h hW1 hb0
  go_enter Try.func75, Try.ntmps75
  go_wp2_with fail
  rw [HW1.out, HB0.out]
  refine (CS.out _ HP1.out).mono ?_
  rintro e w2 ⟨rfl, rfl⟩
  go_wp2_with fail
  go_loopw [11] (fun i wr => ∃ k : Nat, k ≤ L.length ∧ i = .int .i64 k ∧ MB wr b0 154 (mkf L k) ∧ Pg wr P X ∧ Below b0 w wr) (fun i _ => L.length - (intOf i).toNat)
  case atStart => exact ⟨0, by omega, rfl, HM1.out, HP1.out, HBl1.out⟩
  case round =>
    obtain ⟨k, hk, rfl, hmk, hpk, hwk⟩ := hrel
    have HM := Lib.hid hmk
    have HP := Lib.hid hpk
    have HW := Lib.hid hwk
    clear hmk hpk hwk HM1 HP1 HBl1
    by_cases hlt : k < L.length
    · have hlt' : (k : Int) < L.length := by omega
      obtain ⟨o, ho⟩ : ∃ o, L[k]? = some o := ⟨_, List.getElem?_eq_getElem hlt⟩
      have HO := Lib.hid ho
      have CF := Lib.hid (isFree_pg P k X wr HP.out (by omega))
      rw [HX.out.frB ho] at CF
      clear ho
      cases o with
      | none =>
        go_wp2_with fail
        refine CF.out.mono ?_
        rintro e w3 ⟨rfl, m, rfl⟩
        go_wp2_with fail
        go_roundw
        case rel => exact ⟨k + 1, by omega, by go_num, by rw [mkf_none HO.out]; exact HM.out, HP.out.drewN m, ⟨HW.out.os, HW.out.tape, HW.out.output, HW.out.size, HW.out.block⟩⟩
        case measure => simp [intOf]; omega
      | some x =>
        obtain ⟨v, f⟩ := x
        obtain ⟨hvb, hf1, hf2⟩ := HX.out.ver k v f HO.out
        have hsz : v.sz = 30 + v.d.length := rfl
        obtain ⟨z, hz⟩ : ∃ z, v.sz = z := ⟨_, rfl⟩
        have e1 : get2 X (4 + 4 * k) = f := HX.out.frS HO.out
        have e2 : get2 X (6 + 4 * k) = z := by rw [← hz]; exact HX.out.szS HO.out
        rw [hz] at hf2 hsz
        have HZ := Lib.hid hz
        have HSZ := Lib.hid hsz
        have CSp : Hid (∀ w0, Pg w0 P X → Calls Try.prog 98 #[.pointer (some ⟨P, 0, none⟩), .int .i64 (k : Nat)] w0 fun e w' => e = .returned (.tuple #[.int .i64 (f : Nat), .int .i64 (z : Nat)]) ∧ ∃ m, w' = w0.drewN m) := Lib.hid (fun w0 h0 => by
          have h1 := span_pg P k X w0 h0 (by omega)
          rw [e1, e2] at h1
          exact h1)
        have hf1' : ¬ (f : Int) < st := by omega
        have hf2' : ¬ (512 : Int) < (f : Int) + z := by omega
        have hz30 : ¬ (z : Int) < 30 := by omega
        have HF2 := Lib.hid hf2
        clear hvb hsz hz e1 e2
        go_wp2_with fail
        refine CF.out.mono ?_
        rintro e w3 ⟨rfl, m, rfl⟩
        go_wp2_with fail
        refine (CSp.out _ (HP.out.drewN m)).mono ?_
        rintro e w4 ⟨rfl, m2, rfl⟩
        go_wp2_with fail
        refine (CB.out _ (HP.out.drewN (m + m2))).mono ?_
        rintro e w5 ⟨rfl, rfl⟩
        go_wp2_with fail
        go_loopw [7] (fun i wr2 => ∃ j : Nat, f ≤ j ∧ j ≤ f + z ∧ i = .int .i64 j ∧ MB wr2 b0 154 (fun q => mkf L k q || (decide (f ≤ q) && decide (q < j))) ∧ Pg wr2 P X ∧ Below b0 w wr2) (fun i _ => f + z - (intOf i).toNat)
        case atStart =>
          refine ⟨f, by omega, by omega, rfl, ?_, HP.out.drewN _, ⟨HW.out.os, HW.out.tape, HW.out.output, HW.out.size, HW.out.block⟩⟩
          have e : (fun q => mkf L k q || (decide (f ≤ q) && decide (q < f))) = mkf L k := by
            funext q
            cases mkf L k q
            · rw [Bool.false_or, Bool.eq_false_iff]
              simp
            · rfl
          rw [e]
          exact HM.out
        case round =>
          obtain ⟨j, hj1, hj2, rfl, hmj, hpj, hwj⟩ := hrel
          have HM2 := Lib.hid hmj
          have HP2 := Lib.hid hpj
          have HW2 := Lib.hid hwj
          clear hmj hpj hwj HM HP HW CF CSp hf1' hf2' hz30
          by_cases hj : j < f + z
          · have hj' : (j : Int) < (f : Int) + z := by omega
            have hj5 : (j : Int) < 512 := by have := HF2.out; omega
            have x0 := HM2.out.cell (i := j) (by have := HF2.out; omega)
            have hfr := HX.out.fresh HO.out hj1 (by rw [HZ.out]; exact hj)
            have e0 : (mkf L k j || (decide (f ≤ j) && decide (j < j))) = false := by rw [hfr]; simp
            rw [e0] at x0
            have f0 := Blk.frozen HM2.out j
            have HPut := Lib.hid (HM2.out.put j)
            clear hfr e0
            go_wp2_with fail
            go_roundw
            case rel =>
              refine ⟨j + 1, by omega, by omega, by go_num, ?_, ⟨Blk.far HP2.out.1 (show P ≠ b0 by omega) _, HP2.out.2⟩, HW2.out.trans (((Only.refl b0 wr).set_ j (.bool true)).below (Nat.le_of_lt (Blk.lt HM2.out)) (Nat.le_refl _))⟩
              have e : (fun q => (mkf L k q || (decide (f ≤ q) && decide (q < j))) || q == j) = (fun q => mkf L k q || (decide (f ≤ q) && decide (q < j + 1))) := by
                funext q
                cases mkf L k q
                · rw [Bool.false_or, Bool.false_or, Bool.eq_iff_iff]
                  simp
                  omega
                · rfl
              rw [← e]
              exact HPut.out
            case measure => simp [intOf]; omega
          · obtain rfl : j = f + z := by omega
            have hgo := HO.out
            have CA := Lib.hid (at_some P k f z X wr HP2.out (by have : get2 X 0 = L.length := HX.out.slN; omega) (by omega) (HX.out.frS hgo) (by rw [← HZ.out]; exact HX.out.szS hgo) (by have := HSZ.out; omega) HF2.out)
            have hok := Lib.hid (HX.out.okv k v f hgo)
            clear hgo
            go_wp2_with fail
            refine CA.out.mono ?_
            rintro e w6 ⟨rfl, m6, rfl⟩
            obtain ⟨hvb, hf1, hf2⟩ := HX.out.ver k v f HO.out
            obtain ⟨e0, hpre⟩ := split_of hvb (by rw [HX.out.len]; omega)
            have hy := getN_ver (X.take f) (X.drop (f + v.sz)) v.d v.r v.a v.b v.p v.s f hpre (by have := hok.out.r; omega) (by have := hok.out.a; omega) (by have := hok.out.b; omega) hok.out.p hok.out.s
            have e1 : X.take f ++ (verL v.r v.a v.b v.p v.s v.d ++ X.drop (f + v.sz)) = X := e0.symm
            rw [e1] at hy
            obtain ⟨y0, y1, y2, y3, y4, y5⟩ := hy
            have CT := tuple_any P f z (512 - f) _ X (wr.drewN m6) (HP2.out.drewN m6).1 (by rw [HX.out.len]; exact HF2.out) (by have := HSZ.out; omega) (by have := HF2.out; omega) (by omega) (by rw [HX.out.len]; omega)
            rw [y0, y1, y2, y3, y4] at CT
            have HCT := Lib.hid CT
            clear CT hvb hf1 hf2 e0 hpre e1 y0 y1 y2 y3 y4 y5 CA
            go_wp2_with fail
            refine HCT.out.mono ?_
            rintro e w7 ⟨u7, rfl, ho7, hb7⟩
            obtain ⟨A7, c7, rfl, hs7⟩ := Sl.of_own ho7
            have CR := right_any v.r v.a v.b ((v.p : Int) - 1) ((v.s : Int) - 1) A7 (z - 30) c7 w7
            have e8 : z - 30 = v.d.length := by have := HSZ.out; omega
            have e9 : tuOk v.r v.a v.b ((v.p : Int) - 1) ((v.s : Int) - 1) (z - 30) = true := by rw [e8]; exact hok.out.tuOk
            rw [e9] at CR
            have HCR := Lib.hid CR
            have HM7 := Lib.hid (Blk.below (show Blk (wr.drewN m6) b0 _ _ from HM2.out) hb7 (Blk.lt HM2.out))
            have HP7 : Hid (Pg w7 P X) := Lib.hid ⟨Blk.below (HP2.out.drewN m6).1 hb7 (Blk.lt HP2.out.1), HP2.out.2⟩
            have hWm : Below b0 w (wr.drewN m6) := ⟨HW2.out.os, HW2.out.tape, HW2.out.output, HW2.out.size, HW2.out.block⟩
            have HW7 := Lib.hid (hWm.trans (hb7.mono (Nat.le_of_lt (Blk.lt HM2.out))))
            clear CR e8 e9 ho7 hb7 hs7 hWm HCT
            go_wp2_with fail
            refine HCR.out.mono ?_
            rintro e w8 ⟨rfl, hb8⟩
            have HM8 := Lib.hid (Blk.below HM7.out hb8 (Blk.lt HM7.out))
            have HP8 : Hid (Pg w8 P X) := Lib.hid ⟨Blk.below HP7.out.1 hb8 (Blk.lt HP7.out.1), HP7.out.2⟩
            have HW8 := Lib.hid (HW7.out.trans (hb8.mono (Nat.le_of_lt (Blk.lt HM7.out))))
            clear hb8 HCR
            go_wp2_with fail
            go_roundw
            case rel =>
              refine ⟨k + 1, by omega, by go_num, ?_, HP8.out, HW8.out⟩
              have e : mkf L (k + 1) = (fun q => mkf L k q || (decide (f ≤ q) && decide (q < f + z))) := by
                funext q
                rw [mkf_some HO.out, HZ.out]
              rw [e]
              exact HM8.out
            case measure => simp [intOf]; omega
    · obtain rfl : k = L.length := by omega
      go_wp2_with fail
      refine (CS.out _ HP.out).mono ?_
      rintro e w2 ⟨rfl, rfl⟩
      have hL1 : (L.length : Int) ≤ 127 := by omega
      go_wp2_with fail
      go_loopw [8] (fun i wr2 => ∃ j : Nat, 4 + 4 * L.length ≤ j ∧ j ≤ 512 ∧ i = .int .i64 j ∧ MB wr2 b0 154 (mkf L L.length) ∧ Pg wr2 P X ∧ Below b0 w wr2) (fun i _ => 512 - (intOf i).toNat)
      case atStart => exact ⟨4 + 4 * L.length, by omega, by omega, by go_num, HM.out, HP.out, HW.out⟩
      case round =>
        obtain ⟨j, hj1, hj2, rfl, hmj, hpj, hwj⟩ := hrel
        have HM2 := Lib.hid hmj
        have HP2 := Lib.hid hpj
        have HW2 := Lib.hid hwj
        clear hmj hpj hwj HM HP HW
        by_cases hj : j < 512
        · have hj' : (j : Int) < 512 := by omega
          have x0 := HM2.out.cell hj
          cases hm : mkf L L.length j with
          | true =>
            rw [hm] at x0
            clear hm
            go_wp2_with fail
            go_roundw
            case rel => exact ⟨j + 1, by omega, by omega, by go_num, HM2.out, HP2.out, HW2.out⟩
            case measure => simp [intOf]; omega
          | false =>
            rw [hm] at x0
            have x1 := HP2.out.1.cell (HX.out.zero hj1 hj hm)
            clear hm
            go_wp2_with fail
            go_roundw
            case rel => exact ⟨j + 1, by omega, by omega, by go_num, HM2.out, HP2.out, HW2.out⟩
            case measure => simp [intOf]; omega
        · obtain rfl : j = 512 := by omega
          go_wp2_with fail
          go_ret
          exact ⟨rfl, HW2.out⟩
end Go.Proofs.Ytbkdbnkakjogjaa.Mem
/- page.Load of bytes that are a page's. -/
namespace Go.Proofs.Ytbkdbnkakjogjaa.Mem
open Go.RowKit Go.Proofs.Ytbkdbnkakjogjaa.Nums
set_option linter.unusedVariables false
set_option linter.unusedSimpArgs false
set_option maxRecDepth 100000
set_option maxHeartbeats 1000000
theorem run_loadVar_list {P : Program} (w : World) (ad : Addr) (ty : TypeId) (cs : List Value) (d : TypeDesc) (hc : ∀ j v, cs[j]? = some v → w.cell? (ad.add j) = some v)
    (hu : P.underlying ty = some d) (hd : (match d with | .struct _ | .array _ _ => true | _ => false) = true) (hi : (P.info? ty).map (·.size) = some cs.length) :
    (loadVar ty ad).run P w = .ok (.agg cs.toArray) w := by
  have hl := run_loadCells_list (P := P) w ad cs hc
  cases hq : P.info? ty with
  | none => simp [hq] at hi
  | some i =>
    have hs : i.size = cs.length := by simpa [hq] using hi
    have hagg : (isAgg ty).run P w = .ok true w := by
      unfold isAgg
      rw [Sem.run_bind, run_underlying hu w]
      cases d <;> simp_all
    simp [loadVar, Sem.run_bind, hagg, sizeOf, typeInfo, hq, hs, hl]
theorem wpList_load_list {P : Program} {ops : Array Oper} {rest : List Oper} {o : Oper} {a : Act} {w : World} {Q : Exit → Act → World → Prop} (hgd : o.guard = none) (ty : TypeId) (x : Operand) (ho : o.op = .load ty x)
    (ad : Addr) (hx : a.eval x = .pointer (some ad)) (cs : List Value) (d : TypeDesc) (hc : ∀ j v, cs[j]? = some v → w.cell? (ad.add j) = some v)
    (hu : P.underlying ty = some d) (hd : (match d with | .struct _ | .array _ _ => true | _ => false) = true) (hi : (P.info? ty).map (·.size) = some cs.length)
    (h : wpList P ops Q rest (a.put o.dst (.agg cs.toArray)) w) : wpList P ops Q (o :: rest) a w :=
  wpList_plain hgd fun _ hK => by
    unfold Oper.wp execOp
    simp only [ho, hx, Instr.loadAt, Instr.sureAddr, Sem.run_bind, Sem.run_pure, Result.andThen_ok, run_loadVar_list w ad ty cs d hc hu hd hi]
    exact hK _ _ h
theorem fold_put : ∀ (xs : List Value) (k : Nat) (cs : Array Value), k + xs.length ≤ cs.size →
    ((xs.zipIdx k).foldl (fun (cs : Array Value) x => cs.setIfInBounds x.snd x.fst) cs).toList = cs.toList.take k ++ (xs ++ cs.toList.drop (k + xs.length))
  | [], k, cs, _ => by simp
  | x :: xs, k, cs, h => by
    rw [List.length_cons] at h
    rw [List.zipIdx_cons, List.foldl_cons, fold_put xs (k + 1) _ (by rw [Array.size_setIfInBounds]; omega), Array.toList_setIfInBounds, List.length_cons]
    have hk : k < cs.toList.length := by rw [Array.length_toList]; omega
    have e1 : (cs.toList.set k x).take (k + 1) = cs.toList.take k ++ [x] := by
      rw [List.take_add_one, List.getElem?_set_self hk, List.take_set_of_le (Nat.le_refl _)]
      rfl
    have e2 : (cs.toList.set k x).drop (k + 1 + xs.length) = cs.toList.drop (k + (xs.length + 1)) := by
      rw [List.drop_set_of_lt (by omega)]
      congr 1
      omega
    rw [e1, e2]
    simp
theorem fold_all (xs : List Value) (cs : Array Value) (h : xs.length = cs.size) : (xs.zipIdx).foldl (fun (cs : Array Value) x => cs.setIfInBounds x.snd x.fst) cs = xs.toArray := by
  apply Array.toList_inj.1
  rw [fold_put xs 0 cs (by omega), List.take_zero, List.drop_of_length_le (by rw [Array.length_toList]; omega)]
  simp
theorem arr_at (ad : Option Addr) (c : Nat) (w : World) : (Instr.arrayAt 111 (.slice ad 512 c)).run Try.prog w = .ok (.pointer ad) w := by kernel_rfl
theorem arr_size : (Try.prog.info? 111).map (·.size) = some 512 := by kernel_rfl
/-- the last slot is in use, or there is none -/
def Ends (L : SL) : Prop := L.length = 0 ∨ ∃ x, L[L.length - 1]? = some (some x)
theorem Has.rs {X : List UInt8} {L : SL} {st : Nat} (h : Has X L st) (hl : Ends L) : rsB X = true := by
  have e1 : get2 X 0 = L.length := h.slN
  have e2 : get2 X 2 = st := h.bgN
  unfold rsB
  rw [e1, e2, decide_eq_true h.top, decide_eq_true h.all]
  rcases hl with h0 | ⟨x, hx⟩
  · rw [h0]
    rfl
  · rw [h.frB hx]
    simp
theorem load_has {X : List UInt8} {L : SL} {st c : Nat} {A : Option Addr} {w : World} (hs : Sl w w.heap.size 1 A 512 c (u8s X)) (h : Has X L st) (hl : Ends L) :
    Calls Try.prog 31 #[.slice A 512 c] w fun e w' => ∃ Q, e = .returned (.tuple #[.pointer (some ⟨Q, 0, none⟩), .int .i64 0]) ∧ Pg w' Q X ∧ w.heap.size ≤ Q ∧ Below w.heap.size w w' := by
  obtain ⟨ad, rfl, hAt⟩ := hs.at_ (by omega)
  have HAt := Lib.hid hAt
  have HX := Lib.hid h
  have hat := arr_at (some ad) c w
  have HU := Lib.hid h.len
  have hul : (u8s X).length = 512 := by rw [u8s_len, h.len]
  have HRS := Lib.hid (h.rs hl)
  obtain ⟨Q, hQ⟩ : ∃ Q, w.heap.size = Q := ⟨_, rfl⟩
  have HQ := Lib.hid hQ
  obtain ⟨W1, hW1⟩ : ∃ W1, w.alloc (.cells (u8s X).toArray 113) = W1 := ⟨_, rfl⟩
  have HW1 := Lib.hid hW1
  have HP1 : Hid (Pg W1 Q X) := Lib.hid ⟨by rw [← hW1, ← hQ]; exact Blk.new w _ _, h.len⟩
  have HB1 : Hid (Below Q w W1) := Lib.hid (by rw [← hW1, ← hQ]; exact bel_alloc _ _)
  have HFA : Hid ((u8s X).zipIdx.foldl (fun (cs : Array Value) x => cs.setIfInBounds x.snd x.fst) Try.zeroCells113 = (u8s X).toArray) := Lib.hid (fold_all _ _ (by rw [zero_pg, List.size_toArray, u8s_len, u8s_len, h.len, List.length_replicate]))
  clear hs hAt h hQ hW1 hl
  go_enter Try.func31, Try.ntmps31
  go_wp2_with (refine wpList_load_list rfl 111 (.tmp 9) rfl ad rfl (u8s X) _ HAt.out.2 Try.underlying111 rfl (by rw [arr_size, u8s_len, HU.out]) ?_)
  rw [HFA.out, HW1.out, HQ.out]
  have CS := rightSlots_pg Q X W1 HP1.out
  rw [HRS.out] at CS
  refine CS.mono ?_
  rintro e w2 ⟨rfl, m, rfl⟩
  clear CS
  go_wp2_with fail
  refine (rightData_has (HP1.out.drewN m) HX.out).mono ?_
  rintro e w3 ⟨rfl, hb3⟩
  have HP3 : Hid (Pg w3 Q X) := Lib.hid ⟨Blk.below (HP1.out.drewN m).1 hb3 (Blk.lt HP1.out.1), HP1.out.2⟩
  have hB1m : Below Q w (W1.drewN m) := ⟨HB1.out.os, HB1.out.tape, HB1.out.output, HB1.out.size, HB1.out.block⟩
  have HB3 := Lib.hid (hB1m.trans (hb3.mono (Nat.le_of_lt (Blk.lt HP1.out.1))))
  clear hb3 hB1m
  go_wp2_with fail
  go_ret2
  exact ⟨Q, rfl, HP3.out, by rw [HQ.out]; exact Nat.le_refl _, by rw [HQ.out]; exact HB3.out⟩
end Go.Proofs.Ytbkdbnkakjogjaa.Mem
/- The last slot stays in use. -/
namespace Go.Proofs.Ytbkdbnkakjogjaa.Mem
open Go.RowKit Go.Proofs.Ytbkdbnkakjogjaa.Nums
set_option linter.unusedVariables false
theorem Ends.put {L : SL} {q : Nat} {x : Ver × Nat} (h : Ends L) (hq : q ≤ L.length) : Ends (putL L q (some x)) := by
  right
  rw [putL_len hq, putL_get hq]
  by_cases e : max L.length (q + 1) - 1 = q
  · exact ⟨x, by rw [if_pos e]⟩
  · rw [if_neg e]
    rcases h with h | ⟨y, hy⟩
    · exact absurd h (by omega)
    · rw [show max L.length (q + 1) - 1 = L.length - 1 by omega]
      exact ⟨y, hy⟩
theorem Ends.packL {L : SL} (h : Ends L) : Ends (packL L) := by
  rcases h with h | ⟨⟨v, f⟩, hy⟩
  · left
    rw [packL_len, h]
  · right
    rw [packL_len]
    exact ⟨_, packL_some hy⟩
theorem Ends.insS {L : SL} {st : Nat} {v : Ver} (h : Ends L) : Ends (insS L st v).1 := by
  unfold Mem.insS
  split
  · exact Ends.put h.packL (by rw [packL_len]; exact nextL_le L)
  · exact Ends.put h (nextL_le L)
theorem Ends.stamp {L : SL} {s : Nat} {x : Ver × Nat} (h : Ends L) : Ends (L.set s (some x)) := by
  rcases h with h | ⟨y, hy⟩
  · left
    rw [List.length_set, h]
  · right
    rw [List.length_set]
    by_cases e : s = L.length - 1
    · have hl := (List.getElem?_eq_some_iff.1 hy).1
      exact ⟨x, by rw [← e, List.getElem?_set_self (by omega)]⟩
    · exact ⟨y, by rw [List.getElem?_set_ne e]; exact hy⟩
theorem Ends.nil : Ends [] := .inl rfl
theorem Ends.trim {M : SL} {k : Nat} (h : IsTrim M k) : Ends (M.take k) := by
  have h1 := h.le
  rcases Nat.eq_zero_or_pos k with rfl | hk
  · exact .inl (by rw [List.take_zero]; rfl)
  · right
    rw [List.length_take, Nat.min_eq_left h1, List.getElem?_take, if_pos (by omega)]
    exact h.last hk
end Go.Proofs.Ytbkdbnkakjogjaa.Mem
/- What 512 bytes are as slots, and when they are a page's. -/
namespace Go.Proofs.Ytbkdbnkakjogjaa.Mem
open Go.RowKit Go.Proofs.Ytbkdbnkakjogjaa.Nums
set_option linter.unusedVariables false
set_option linter.unusedSimpArgs false
set_option maxRecDepth 100000
theorem nb_cons (x n m : Nat) (hx : x < 256) : nb (x + 256 * n) (m + 1) = UInt8.ofNat x :: nb n m := by
  unfold nb
  rw [List.range_succ_eq_map, List.map_cons, List.map_map]
  congr 1
  · apply UInt8.toNat_inj.1
    simp
  · apply List.map_congr_left
    intro k _
    show UInt8.ofNat ((x + 256 * n) / 2 ^ (8 * (k + 1))) = _
    congr 1
    rw [show 8 * (k + 1) = 8 + 8 * k by omega, Nat.pow_add, ← Nat.div_div_eq_div_mul]
    congr 1
    omega
theorem nb_leN : ∀ b : List UInt8, nb (leN b) b.length = b
  | [] => rfl
  | x :: l => by
    show nb (x.toNat + 256 * leN l) (l.length + 1) = _
    rw [nb_cons _ _ _ x.toNat_lt, nb_leN l]
    simp
theorem sub_nb {X : List UInt8} {a m : Nat} (h : a + m ≤ X.length) : sub X a m = nb (getN X a m) m := by
  have e := nb_leN (sub X a m)
  rw [sub_len h] at e
  exact e.symm
def verAt (X : List UInt8) (f z : Nat) : Ver := ⟨getN X f 8, getN X (f + 8) 8, getN X (f + 16) 8, getN X (f + 24) 4, getN X (f + 28) 2, sub X (f + 30) (z - 30)⟩
def slotAt (X : List UInt8) (s : Nat) : Option (Ver × Nat) := if Mem.frB X s = true then none else some (verAt X (frS X s) (szS X s), frS X s)
def Lx (X : List UInt8) : SL := (List.range (slN X)).map (slotAt X)
theorem Lx_len (X : List UInt8) : (Lx X).length = slN X := by simp [Lx]
theorem Lx_get {X : List UInt8} {s : Nat} (h : s < slN X) : (Lx X)[s]? = some (slotAt X s) := by simp [Lx, h]
/-- slot s is right, as far as the slots ahead of it tell -/
def okS (X : List UInt8) (s : Nat) : Prop :=
  Mem.frB X s = true ∨ (30 ≤ szS X s ∧ bgN X ≤ frS X s ∧ frS X s + szS X s ≤ 512 ∧ (∀ i, frS X s ≤ i → i < frS X s + szS X s → mkf (Lx X) s i = false) ∧
    tuOk (getN X (frS X s) 8) (getN X (frS X s + 8) 8) (getN X (frS X s + 16) 8) ((getN X (frS X s + 24) 4 : Nat) - 1) ((getN X (frS X s + 28) 2 : Nat) - 1) (szS X s - 30) = true)
structure LoadOk (X : List UInt8) : Prop where
  len : X.length = 512
  rs : rsB X = true
  sl : ∀ s, s < slN X → okS X s
  zero : ∀ i, 4 + 4 * slN X ≤ i → i < 512 → mkf (Lx X) (slN X) i = false → X[i]? = some 0
theorem rs_split {X : List UInt8} (h : rsB X = true) : 4 + 4 * slN X ≤ bgN X ∧ bgN X ≤ 512 ∧ (slN X = 0 ∨ Mem.frB X (slN X - 1) = false) := by
  unfold rsB at h
  rw [Bool.and_eq_true, Bool.and_eq_true, Bool.or_eq_true, decide_eq_true_eq, decide_eq_true_eq, beq_iff_eq, Bool.not_eq_true'] at h
  exact ⟨h.1, h.2.1, h.2.2⟩
theorem slotAt_free {X : List UInt8} {s : Nat} (h : Mem.frB X s = true) : slotAt X s = none := by unfold slotAt; rw [if_pos h]
theorem slotAt_some {X : List UInt8} {s : Nat} (h : Mem.frB X s = false) : slotAt X s = some (verAt X (frS X s) (szS X s), frS X s) := by unfold slotAt; rw [if_neg (by rw [h]; decide)]
theorem frB_zero {X : List UInt8} {s : Nat} (h : Mem.frB X s = true) : frS X s = 0 ∧ szS X s = 0 := by
  unfold Mem.frB at h
  rw [Bool.and_eq_true, beq_iff_eq, beq_iff_eq] at h
  exact h
theorem verAt_sz {X : List UInt8} {f z : Nat} (h : f + z ≤ X.length) (h30 : 30 ≤ z) : (verAt X f z).sz = z := by
  show 30 + (sub X (f + 30) (z - 30)).length = z
  rw [sub_len (by omega)]
  omega
theorem verAt_ok {X : List UInt8} {f z : Nat} (h : f + z ≤ X.length) (h30 : 30 ≤ z) (ht : tuOk (getN X f 8) (getN X (f + 8) 8) (getN X (f + 16) 8) ((getN X (f + 24) 4 : Nat) - 1) ((getN X (f + 28) 2 : Nat) - 1) (z - 30) = true) : (verAt X f z).ok := by
  obtain ⟨h1, h2, h3, h4, h5⟩ := tuOk_nx ht
  unfold nxOk at h4
  simp only [Bool.and_eq_true, Bool.or_eq_true, decide_eq_true_eq, beq_iff_eq] at h4
  refine ⟨h1, h2, h3, ?_, ?_, ?_, ?_⟩
  · show getN X (f + 24) 4 ≤ 65536; omega
  · show getN X (f + 28) 2 ≤ 65535; omega
  · show getN X (f + 24) 4 = 0 ↔ getN X (f + 28) 2 = 0; omega
  · show (sub X (f + 30) (z - 30)).length ≤ 200
    rw [sub_len (by omega)]; exact h5
theorem verAt_bytes {X : List UInt8} {f z : Nat} (h : f + z ≤ X.length) (h30 : 30 ≤ z) : sub X f z = (verAt X f z).bytes := by
  have e : ∀ {a m n : Nat} {b c : List UInt8}, sub X a m = b → sub X (a + m) n = c → a + (m + n) ≤ X.length → sub X a (m + n) = b ++ c := fun h1 h2 hl => sub_two h1 h2 (by rw [← h1, sub_len (by omega)]) (by rw [← h2, sub_len (by omega)])
  have g : ∀ {a m : Nat}, a + m ≤ X.length → sub X a m = nb (getN X a m) m := fun hl => sub_nb hl
  show _ = verL _ _ _ _ _ _
  unfold verL
  have q5 := e (g (a := f + 28) (m := 2) (by omega)) (n := z - 30) (c := sub X (f + 30) (z - 30)) rfl (by omega)
  have q4 := e (g (a := f + 24) (m := 4) (by omega)) (n := 2 + (z - 30)) q5 (by omega)
  have q3 := e (g (a := f + 16) (m := 8) (by omega)) (n := 4 + (2 + (z - 30))) q4 (by omega)
  have q2 := e (g (a := f + 8) (m := 8) (by omega)) (n := 8 + (4 + (2 + (z - 30)))) q3 (by omega)
  have q1 := e (g (a := f) (m := 8) (by omega)) (n := 8 + (8 + (4 + (2 + (z - 30))))) q2 (by omega)
  rw [show 8 + (8 + (8 + (4 + (2 + (z - 30))))) = z by omega] at q1
  rw [q1]
  rfl
/-- how many places of a range a span has -/
theorem cnt_span (f z : Nat) : ∀ N, (List.range N).countP (fun i => decide (f ≤ i) && decide (i < f + z)) = min (N - f) z
  | 0 => by simp
  | N + 1 => by
    rw [List.range_succ, List.countP_append, cnt_span f z N]
    simp only [List.countP_cons, List.countP_nil]
    by_cases h1 : f ≤ N
    · by_cases h2 : N < f + z
      · simp [h1, h2]; omega
      · simp [h1, h2]; omega
    · simp [h1]; omega
theorem cnt_or (p q : Nat → Bool) : ∀ l : List Nat, (∀ i ∈ l, q i = true → p i = false) → l.countP (fun i => p i || q i) = l.countP p + l.countP q
  | [], _ => rfl
  | a :: l, h => by
    have ih := cnt_or p q l fun i hi => h i (List.mem_cons_of_mem _ hi)
    have ha := h a (List.mem_cons_self ..)
    simp only [List.countP_cons, ih]
    cases hp : p a <;> cases hq : q a <;> simp_all <;> omega
section
variable {X : List UInt8}
theorem LoadOk.span (h : LoadOk X) {s : Nat} {v : Ver} {f : Nat} (hs : (Lx X)[s]? = some (some (v, f))) : s < slN X ∧ f = frS X s ∧ v = verAt X f (szS X s) ∧ v.sz = szS X s ∧ 30 ≤ szS X s ∧ bgN X ≤ f ∧ f + szS X s ≤ 512 ∧ (∀ i, f ≤ i → i < f + szS X s → mkf (Lx X) s i = false) ∧ v.ok := by
  have hl := (List.getElem?_eq_some_iff.1 hs).1
  rw [Lx_len] at hl
  rw [Lx_get hl] at hs
  injection hs with hs
  cases hb : Mem.frB X s with
  | true => rw [slotAt_free hb] at hs; cases hs
  | false =>
    rw [slotAt_some hb] at hs
    injection hs with hs; injection hs with h1 h2
    subst h1 h2
    rcases h.sl s hl with h0 | ⟨k1, k2, k3, k4, k5⟩
    · rw [hb] at h0; cases h0
    · exact ⟨hl, rfl, rfl, verAt_sz (by rw [h.len]; exact k3) k1, k1, k2, k3, k4, verAt_ok (by rw [h.len]; exact k3) k1 k5⟩
theorem LoadOk.cnt (h : LoadOk X) : ∀ k, k ≤ slN X → (List.range 512).countP (mkf (Lx X) k) = tot ((Lx X).take k)
  | 0, _ => by
    have e : mkf (Lx X) 0 = fun _ => false := rfl
    rw [e]
    simp [tot]
  | k + 1, hk => by
    have ih := h.cnt k (by omega)
    obtain ⟨o, ho⟩ : ∃ o, (Lx X)[k]? = some o := ⟨_, Lx_get (by omega)⟩
    rw [tot_take_succ ho, ← ih]
    cases o with
    | none => rw [mkf_none ho]; simp [osz]
    | some x =>
      obtain ⟨v, f⟩ := x
      obtain ⟨_, _, _, hz, h30, hst, hle, hfr, _⟩ := h.span ho
      have e : mkf (Lx X) (k + 1) = fun i => mkf (Lx X) k i || (decide (f ≤ i) && decide (i < f + v.sz)) := by
        funext i
        exact mkf_some ho i
      rw [e, cnt_or _ _ _ (fun i _ hi => by
        rw [Bool.and_eq_true, decide_eq_true_eq, decide_eq_true_eq] at hi
        exact hfr i hi.1 (by rw [← hz]; exact hi.2)), cnt_span]
      show _ = _ + v.sz
      omega
theorem LoadOk.has (h : LoadOk X) : Has X (Lx X) (bgN X) ∧ Ends (Lx X) := by
  obtain ⟨r1, r2, r3⟩ := rs_split h.rs
  have hlen := h.len
  have e2 : ∀ {a : Nat}, a + 2 ≤ X.length → sub X a 2 = nb (get2 X a) 2 := fun hl => sub_nb hl
  refine ⟨⟨h.len, ?_, e2 (by omega), by rw [Lx_len]; exact r1, r2, ?_, ?_, ?_, ?_, ?_, ?_⟩, ?_⟩
  · rw [Lx_len]; exact e2 (by omega)
  · have hc := h.cnt _ (Nat.le_refl _)
    have hT : (Lx X).take (slN X) = Lx X := by rw [← Lx_len, List.take_length]
    rw [hT] at hc
    have hle : (List.range 512).countP (mkf (Lx X) (slN X)) ≤ (List.range 512).countP (fun i => decide (bgN X ≤ i) && decide (i < bgN X + 512)) := by
      apply List.countP_mono_left
      intro i hi hm
      obtain ⟨j, v, f, _, hj, hf1, hf2⟩ := mkf_true hm
      obtain ⟨_, _, _, hz, _, hst, hle, _⟩ := h.span hj
      have : i < 512 := List.mem_range.1 hi
      rw [Bool.and_eq_true, decide_eq_true_eq, decide_eq_true_eq]
      omega
    rw [cnt_span] at hle
    omega
  · intro s o hs
    have hl := (List.getElem?_eq_some_iff.1 hs).1
    rw [Lx_len] at hl
    have q1 : sub X (4 + 4 * s) 2 = nb (frS X s) 2 := e2 (by omega)
    have q2 : sub X (4 + 4 * s + 2) 2 = nb (szS X s) 2 := by
      rw [show 4 + 4 * s + 2 = 6 + 4 * s by omega]
      exact e2 (by omega)
    have q := sub_two q1 q2 (nb_len _ _) (nb_len _ _)
    rw [q]
    cases o with
    | none =>
      rw [Lx_get hl] at hs
      injection hs with hs
      cases hb : Mem.frB X s with
      | true =>
        obtain ⟨z1, z2⟩ := frB_zero hb
        rw [z1, z2]
        rfl
      | false => rw [slotAt_some hb] at hs; cases hs
    | some x =>
      obtain ⟨v, f⟩ := x
      obtain ⟨_, hf, _, hz, _⟩ := h.span hs
      show _ = nb f 2 ++ nb v.sz 2
      rw [hf, hz]
  · intro s v f hs
    obtain ⟨_, hf, hv, hz, h30, hst, hle, _⟩ := h.span hs
    rw [hz]
    refine ⟨?_, hst, hle⟩
    rw [hv]
    exact verAt_bytes (by omega) h30
  · have key : ∀ (s s' : Nat) (v : Ver) (f : Nat) (v' : Ver) (f' : Nat), (Lx X)[s]? = some (some (v, f)) → (Lx X)[s']? = some (some (v', f')) → s < s' → f + v.sz ≤ f' ∨ f' + v'.sz ≤ f := by
      intro s s' v f v' f' hs hs' hlt
      obtain ⟨_, _, _, hz, h30, _, _, _⟩ := h.span hs
      obtain ⟨_, _, _, hz', h30', _, _, hfr', _⟩ := h.span hs'
      apply Classical.byContradiction
      intro hn
      have hm := mkf_mem (L := Lx X) (k := s') (i := max f f') hlt hs (by omega) (by omega)
      rw [hfr' (max f f') (by omega) (by omega)] at hm
      cases hm
    intro s s' v f v' f' hs hs' hne
    rcases Nat.lt_or_gt_of_ne hne with hl | hl
    · exact key s s' v f v' f' hs hs' hl
    · exact (key s' s v' f' v f hs' hs hl).symm
  · intro i h1 h2 h3
    rw [Lx_len] at h1
    refine h.zero i h1 h2 ?_
    cases hm : mkf (Lx X) (slN X) i with
    | false => rfl
    | true =>
      obtain ⟨j, v, f, _, hj, hf1, hf2⟩ := mkf_true hm
      have := h3 j v f hj
      omega
  · intro s v f hs
    obtain ⟨_, _, _, _, _, _, _, _, hok⟩ := h.span hs
    exact hok
  · rcases r3 with h0 | h0
    · exact .inl (by rw [Lx_len]; exact h0)
    · by_cases hn : slN X = 0
      · exact .inl (by rw [Lx_len]; exact hn)
      · right
        rw [Lx_len, Lx_get (by omega), slotAt_some h0]
        exact ⟨_, rfl⟩
end
end Go.Proofs.Ytbkdbnkakjogjaa.Mem
/- page.rightData, page.Load of bytes that are no page's. -/
namespace Go.Proofs.Ytbkdbnkakjogjaa.Mem
open Go.RowKit Go.Proofs.Ytbkdbnkakjogjaa.Nums
set_option linter.unusedVariables false
set_option linter.unusedSimpArgs false
set_option maxRecDepth 100000
set_option maxHeartbeats 2000000
theorem rightData_not {P : Nat} {X : List UInt8} {w : World} (hp : Pg w P X) (hrs : rsB X = true) (hn : ¬ LoadOk X) :
    Calls Try.prog 75 #[.pointer (some ⟨P, 0, none⟩)] w fun e w' => e = .returned (.bool false) ∧ Below w.heap.size w w' := by
  have hX := hp.2
  have HN : Hid ((∀ s, s < slN X → okS X s) → (∀ i, 4 + 4 * slN X ≤ i → i < 512 → mkf (Lx X) (slN X) i = false → X[i]? = some 0) → False) := Lib.hid (fun h1 h2 => hn ⟨hX, hrs, h1, h2⟩)
  obtain ⟨htop, hall, _⟩ := rs_split hrs
  have HXL := Lib.hid hX
  obtain ⟨n, hnn⟩ : ∃ n, slN X = n := ⟨_, rfl⟩
  obtain ⟨st, hst⟩ : ∃ st, bgN X = st := ⟨_, rfl⟩
  have HNN := Lib.hid hnn
  have HST := Lib.hid hst
  rw [hnn, hst] at htop
  rw [hst] at hall
  rw [hnn] at HN
  have CS : Hid (∀ w0, Pg w0 P X → Calls Try.prog 25 #[.pointer (some ⟨P, 0, none⟩)] w0 fun e w' => e = .returned (.int .i64 (n : Nat)) ∧ w0 = w') := Lib.hid (fun w0 h0 => by
    have h1 := slots_pg P X w0 h0
    have e : get2 X 0 = n := hnn
    rw [e] at h1
    exact h1)
  have CB : Hid (∀ w0, Pg w0 P X → Calls Try.prog 79 #[.pointer (some ⟨P, 0, none⟩)] w0 fun e w' => e = .returned (.int .i64 (st : Nat)) ∧ w0 = w') := Lib.hid (fun w0 h0 => by
    have h1 := begin_pg P X w0 h0
    have e : get2 X 2 = st := hst
    rw [e] at h1
    exact h1)
  obtain ⟨b0, hb0⟩ : ∃ b0, w.heap.size = b0 := ⟨_, rfl⟩
  obtain ⟨W1, hW1⟩ : ∃ W1, w.alloc (.cells Try.zeroCells154 154) = W1 := ⟨_, rfl⟩
  have HW1 := Lib.hid hW1
  have HB0 := Lib.hid hb0
  have HM1 : Hid (MB W1 b0 154 (mkf (Lx X) 0)) := Lib.hid (by rw [← hW1, ← hb0, zero_mb]; exact Blk.new w _ _)
  have HP1 : Hid (Pg W1 P X) := Lib.hid (by rw [← hW1]; exact ⟨Blk.alloc hp.1 _, hp.2⟩)
  have HBl1 : Hid (Below b0 w W1) := Lib.hid (by rw [← hW1, ← hb0]; exact bel_alloc _ _)
  have hPb : P < b0 := by rw [← hb0]; exact Blk.lt hp.1
  rw [hb0]
  clear hp hn hrs hX hW1 hb0 hnn hst
  go_enter Try.func75, Try.ntmps75
  go_wp2_with fail
  rw [HW1.out, HB0.out]
  refine (CS.out _ HP1.out).mono ?_
  rintro e w2 ⟨rfl, rfl⟩
  go_wp2_with fail
  go_loopw [11] (fun i wr => ∃ k : Nat, k ≤ n ∧ i = .int .i64 k ∧ (∀ s, s < k → okS X s) ∧ MB wr b0 154 (mkf (Lx X) k) ∧ Pg wr P X ∧ Below b0 w wr) (fun i _ => n - (intOf i).toNat)
  case atStart => exact ⟨0, by omega, rfl, fun s hs => absurd hs (by omega), HM1.out, HP1.out, HBl1.out⟩
  case round =>
    obtain ⟨k, hk, rfl, hoks, hmk, hpk, hwk⟩ := hrel
    have HM := Lib.hid hmk
    have HP := Lib.hid hpk
    have HW := Lib.hid hwk
    have HOK := Lib.hid hoks
    clear hmk hpk hwk hoks HM1 HP1 HBl1
    by_cases hlt : k < n
    · have hlt' : (k : Int) < n := by omega
      have CF := Lib.hid (isFree_pg P k X wr HP.out (by omega))
      have HLG : Hid ((Lx X)[k]? = some (slotAt X k)) := Lib.hid (Lx_get (by rw [HNN.out]; exact hlt))
      have HOKs : Hid (okS X k → ∀ s, s < k + 1 → okS X s) := Lib.hid (fun h s hs => by
        by_cases e : s = k
        · rw [e]; exact h
        · exact HOK.out s (by omega))
      cases hb : Mem.frB X k with
      | true =>
        rw [hb] at CF
        have HF := Lib.hid hb
        clear hb
        go_wp2_with fail
        refine CF.out.mono ?_
        rintro e w3 ⟨rfl, m, rfl⟩
        go_wp2_with fail
        go_roundw
        case rel => exact ⟨k + 1, by omega, by go_num, HOKs.out (.inl HF.out), by rw [mkf_none (by rw [HLG.out, slotAt_free HF.out])]; exact HM.out, HP.out.drewN m, ⟨HW.out.os, HW.out.tape, HW.out.output, HW.out.size, HW.out.block⟩⟩
        case measure => simp [intOf]; omega
      | false =>
        rw [hb] at CF
        have HF := Lib.hid hb
        clear hb
        have hfl := get2_lt X (4 + 4 * k)
        have hzl := get2_lt X (6 + 4 * k)
        obtain ⟨f, hf⟩ : ∃ f, frS X k = f := ⟨_, rfl⟩
        obtain ⟨z, hz⟩ : ∃ z, szS X k = z := ⟨_, rfl⟩
        have e1 : get2 X (4 + 4 * k) = f := hf
        have e2 : get2 X (6 + 4 * k) = z := hz
        rw [e1] at hfl
        rw [e2] at hzl
        have HFZ := Lib.hid (And.intro hf hz)
        have CSp : Hid (∀ w0, Pg w0 P X → Calls Try.prog 98 #[.pointer (some ⟨P, 0, none⟩), .int .i64 (k : Nat)] w0 fun e w' => e = .returned (.tuple #[.int .i64 (f : Nat), .int .i64 (z : Nat)]) ∧ ∃ m, w' = w0.drewN m) := Lib.hid (fun w0 h0 => by
          have h1 := span_pg P k X w0 h0 (by omega)
          rw [e1, e2] at h1
          exact h1)
        clear hf hz e1 e2
        have hfI : (f : Int) < 65536 := by omega
        have hzI : (z : Int) < 65536 := by omega
        go_wp2_with fail
        refine CF.out.mono ?_
        rintro e w3 ⟨rfl, m, rfl⟩
        go_wp2_with fail
        refine (CSp.out _ (HP.out.drewN m)).mono ?_
        rintro e w4 ⟨rfl, m2, rfl⟩
        go_wp2_with fail
        refine (CB.out _ (HP.out.drewN (m + m2))).mono ?_
        rintro e w5 ⟨rfl, rfl⟩
        have HWm : Hid (∀ q, Below b0 w (wr.drewN q)) := Lib.hid (fun q => ⟨HW.out.os, HW.out.tape, HW.out.output, HW.out.size, HW.out.block⟩)
        by_cases h1 : st ≤ f
        · by_cases h2 : f + z ≤ 512
          · by_cases h3 : 30 ≤ z
            · have hf1' : ¬ (f : Int) < st := by omega
              have hf2' : ¬ (512 : Int) < (f : Int) + z := by omega
              have hz30 : ¬ (z : Int) < 30 := by omega
              have HF2 := Lib.hid (And.intro h1 (And.intro h2 h3))
              clear h1 h2 h3 hfl hzl hfI hzI
              go_wp2_with fail
              go_loopw [7] (fun i wr2 => ∃ j : Nat, f ≤ j ∧ j ≤ f + z ∧ i = .int .i64 j ∧ (∀ q, f ≤ q → q < j → mkf (Lx X) k q = false) ∧ MB wr2 b0 154 (fun q => mkf (Lx X) k q || (decide (f ≤ q) && decide (q < j))) ∧ Pg wr2 P X ∧ Below b0 w wr2) (fun i _ => f + z - (intOf i).toNat)
              case atStart =>
                refine ⟨f, by omega, by omega, rfl, fun q h1 h2 => absurd h2 (by omega), ?_, HP.out.drewN _, HWm.out _⟩
                have e : (fun q => mkf (Lx X) k q || (decide (f ≤ q) && decide (q < f))) = mkf (Lx X) k := by
                  funext q
                  cases mkf (Lx X) k q
                  · rw [Bool.false_or, Bool.eq_false_iff]
                    simp
                  · rfl
                rw [e]
                exact HM.out
              case round =>
                obtain ⟨j, hj1, hj2, rfl, hfr, hmj, hpj, hwj⟩ := hrel
                have HM2 := Lib.hid hmj
                have HP2 := Lib.hid hpj
                have HW2 := Lib.hid hwj
                have HFR := Lib.hid hfr
                clear hmj hpj hwj hfr HM HP HW CF CSp hf1' hf2' hz30 HWm
                by_cases hj : j < f + z
                · have hj' : (j : Int) < (f : Int) + z := by omega
                  have hj5 : (j : Int) < 512 := by have := HF2.out; omega
                  have x0 := HM2.out.cell (i := j) (by have := HF2.out; omega)
                  have e1 : (decide (f ≤ j) && decide (j < j)) = false := by simp
                  rw [e1, Bool.or_false] at x0
                  clear e1
                  cases hm : mkf (Lx X) k j with
                  | true =>
                    rw [hm] at x0
                    clear hm
                    go_wp2_with fail
                    go_ret
                    exact ⟨rfl, HW2.out⟩
                  | false =>
                    rw [hm] at x0
                    have HMJ := Lib.hid hm
                    clear hm
                    have f0 := Blk.frozen HM2.out j
                    have HPut := Lib.hid (HM2.out.put j)
                    go_wp2_with fail
                    go_roundw
                    case rel =>
                      refine ⟨j + 1, by omega, by omega, by go_num, fun q h1 h2 => ?_, ?_, ⟨Blk.far HP2.out.1 (show P ≠ b0 by omega) _, HP2.out.2⟩, HW2.out.trans (((Only.refl b0 wr).set_ j (.bool true)).below (Nat.le_of_lt (Blk.lt HM2.out)) (Nat.le_refl _))⟩
                      · by_cases e : q = j
                        · rw [e]; exact HMJ.out
                        · exact HFR.out q h1 (by omega)
                      · have e : (fun q => (mkf (Lx X) k q || (decide (f ≤ q) && decide (q < j))) || q == j) = (fun q => mkf (Lx X) k q || (decide (f ≤ q) && decide (q < j + 1))) := by
                          funext q
                          cases mkf (Lx X) k q
                          · rw [Bool.false_or, Bool.false_or, Bool.eq_iff_iff]
                            simp
                            omega
                          · rfl
                        rw [← e]
                        exact HPut.out
                    case measure => simp [intOf]; omega
                · obtain rfl : j = f + z := by omega
                  have CA := Lib.hid (at_some P k f z X wr HP2.out (by have : get2 X 0 = n := HNN.out; omega) (by omega) HFZ.out.1 HFZ.out.2 (by have := HF2.out; omega) HF2.out.2.1)
                  obtain ⟨r, hr⟩ : ∃ r, tuOk (getN X f 8) (getN X (f + 8) 8) (getN X (f + 16) 8) ((getN X (f + 24) 4 : Nat) - 1) ((getN X (f + 28) 2 : Nat) - 1) (z - 30) = r := ⟨_, rfl⟩
                  have HR := Lib.hid hr
                  clear hr
                  go_wp2_with fail
                  refine CA.out.mono ?_
                  rintro e w6 ⟨rfl, m6, rfl⟩
                  have CT := tuple_any P f z (512 - f) _ X (wr.drewN m6) (HP2.out.drewN m6).1 (by rw [HXL.out]; exact HF2.out.2.1) (by have := HF2.out; omega) (by have := HF2.out; omega) (by omega) (by rw [HXL.out]; omega)
                  have HCT := Lib.hid CT
                  clear CT CA
                  go_wp2_with fail
                  refine HCT.out.mono ?_
                  rintro e w7 ⟨u7, rfl, ho7, hb7⟩
                  obtain ⟨A7, c7, rfl, hs7⟩ := Sl.of_own ho7
                  have CR := right_any (getN X f 8) (getN X (f + 8) 8) (getN X (f + 16) 8) ((getN X (f + 24) 4 : Nat) - 1) ((getN X (f + 28) 2 : Nat) - 1) A7 (z - 30) c7 w7
                  rw [HR.out] at CR
                  have HCR := Lib.hid CR
                  have HM7 := Lib.hid (Blk.below (show Blk (wr.drewN m6) b0 _ _ from HM2.out) hb7 (Blk.lt HM2.out))
                  have HP7 : Hid (Pg w7 P X) := Lib.hid ⟨Blk.below (HP2.out.drewN m6).1 hb7 (Blk.lt HP2.out.1), HP2.out.2⟩
                  have hWm : Below b0 w (wr.drewN m6) := ⟨HW2.out.os, HW2.out.tape, HW2.out.output, HW2.out.size, HW2.out.block⟩
                  have HW7 := Lib.hid (hWm.trans (hb7.mono (Nat.le_of_lt (Blk.lt HM2.out))))
                  clear CR ho7 hb7 hs7 hWm HCT
                  go_wp2_with fail
                  refine HCR.out.mono ?_
                  rintro e w8 ⟨rfl, hb8⟩
                  have HM8 := Lib.hid (Blk.below HM7.out hb8 (Blk.lt HM7.out))
                  have HP8 : Hid (Pg w8 P X) := Lib.hid ⟨Blk.below HP7.out.1 hb8 (Blk.lt HP7.out.1), HP7.out.2⟩
                  have HW8 := Lib.hid (HW7.out.trans (hb8.mono (Nat.le_of_lt (Blk.lt HM7.out))))
                  clear hb8 HCR
                  cases r with
                  | false =>
                    go_wp2_with fail
                    go_ret
                    exact ⟨rfl, HW8.out⟩
                  | true =>
                    go_wp2_with fail
                    go_roundw
                    case rel =>
                      refine ⟨k + 1, by omega, by go_num, HOKs.out (.inr ?_), ?_, HP8.out, HW8.out⟩
                      · rw [HFZ.out.1, HFZ.out.2, HST.out]
                        exact ⟨HF2.out.2.2, HF2.out.1, HF2.out.2.1, HFR.out, HR.out⟩
                      · have e : mkf (Lx X) (k + 1) = (fun q => mkf (Lx X) k q || (decide (f ≤ q) && decide (q < f + z))) := by
                          funext q
                          have hg := HLG.out
                          rw [slotAt_some HF.out, HFZ.out.1, HFZ.out.2] at hg
                          rw [mkf_some hg, verAt_sz (by rw [HXL.out]; exact HF2.out.2.1) HF2.out.2.2]
                        rw [e]
                        exact HM8.out
                    case measure => simp [intOf]; omega
            · have hf1' : ¬ (f : Int) < st := by omega
              have hf2' : ¬ (512 : Int) < (f : Int) + z := by omega
              have hz30 : (z : Int) < 30 := by omega
              go_wp2_with fail
              go_ret
              exact ⟨rfl, HWm.out _⟩
          · have hf1' : ¬ (f : Int) < st := by omega
            have hf2' : (512 : Int) < (f : Int) + z := by omega
            clear h2
            go_wp2_with fail
            go_ret
            exact ⟨rfl, HWm.out _⟩
        · have hf1' : (f : Int) < st := by omega
          clear h1
          go_wp2_with fail
          go_ret
          exact ⟨rfl, HWm.out _⟩
    · obtain rfl : k = n := by omega
      go_wp2_with fail
      refine (CS.out _ HP.out).mono ?_
      rintro e w2 ⟨rfl, rfl⟩
      have hL1 : (k : Int) ≤ 127 := by omega
      go_wp2_with fail
      go_loopw [8] (fun i wr2 => ∃ j : Nat, 4 + 4 * k ≤ j ∧ j ≤ 512 ∧ i = .int .i64 j ∧ (∀ i, 4 + 4 * k ≤ i → i < j → mkf (Lx X) k i = false → X[i]? = some 0) ∧ MB wr2 b0 154 (mkf (Lx X) k) ∧ Pg wr2 P X ∧ Below b0 w wr2) (fun i _ => 512 - (intOf i).toNat)
      case atStart => exact ⟨4 + 4 * k, by omega, by omega, by go_num, fun i h1 h2 => absurd h2 (by omega), HM.out, HP.out, HW.out⟩
      case round =>
        obtain ⟨j, hj1, hj2, rfl, hzr, hmj, hpj, hwj⟩ := hrel
        have HM2 := Lib.hid hmj
        have HP2 := Lib.hid hpj
        have HW2 := Lib.hid hwj
        have HZR := Lib.hid hzr
        clear hmj hpj hwj hzr HM HP HW
        by_cases hj : j < 512
        · have hj' : (j : Int) < 512 := by omega
          have x0 := HM2.out.cell hj
          cases hm : mkf (Lx X) k j with
          | true =>
            rw [hm] at x0
            have HMJ := Lib.hid hm
            clear hm
            go_wp2_with fail
            go_roundw
            case rel =>
              refine ⟨j + 1, by omega, by omega, by go_num, fun i h1 h2 h3 => ?_, HM2.out, HP2.out, HW2.out⟩
              by_cases e : i = j
              · rw [e, HMJ.out] at h3; cases h3
              · exact HZR.out i h1 (by omega) h3
            case measure => simp [intOf]; omega
          | false =>
            rw [hm] at x0
            clear hm
            obtain ⟨y, hy⟩ : ∃ y, X[j]? = some y := ⟨_, List.getElem?_eq_getElem (by rw [HXL.out]; exact hj)⟩
            have x1 := HP2.out.1.cell hy
            have HY := Lib.hid hy
            clear hy
            by_cases hy0 : y = 0
            · subst hy0
              go_wp2_with fail
              go_roundw
              case rel =>
                refine ⟨j + 1, by omega, by omega, by go_num, fun i h1 h2 h3 => ?_, HM2.out, HP2.out, HW2.out⟩
                by_cases e : i = j
                · rw [e]; exact HY.out
                · exact HZR.out i h1 (by omega) h3
              case measure => simp [intOf]; omega
            · have hy1 : ((y.toNat : Int) == 0) = false := by
                rw [beq_eq_false_iff_ne]
                intro e
                exact hy0 (UInt8.toNat_inj.1 (by simp; omega))
              clear hy0
              go_wp2_with fail
              go_ret
              exact ⟨rfl, HW2.out⟩
        · obtain rfl : j = 512 := by omega
          exact (HN.out HOK.out HZR.out).elim
theorem load_len (A : Option Addr) (n c : Nat) (w : World) (hn : n ≠ 512) : Calls Try.prog 31 #[.slice A n c] w fun e w' => e = .returned (.tuple #[.pointer none, .int .i64 3]) ∧ w' = w := by
  have hn1 : ((n : Int) == 512) = false := by rw [beq_eq_false_iff_ne]; omega
  clear hn
  go_enter Try.func31, Try.ntmps31
  go_wp2_with fail
  go_ret2
  exact ⟨rfl, rfl⟩
theorem load_not {X : List UInt8} {n c : Nat} {A : Option Addr} {w : World} (hs : Sl w w.heap.size 1 A n c (u8s X)) (h : ¬ LoadOk X) :
    Calls Try.prog 31 #[.slice A n c] w fun e w' => e = .returned (.tuple #[.pointer none, .int .i64 3]) ∧ Below w.heap.size w w' := by
  have hlen := len_of hs
  by_cases hn : n = 512
  · subst hn
    obtain ⟨ad, rfl, hAt⟩ := hs.at_ (by omega)
    have HAt := Lib.hid hAt
    have hat := arr_at (some ad) c w
    have HU := Lib.hid hlen
    obtain ⟨Q, hQ⟩ : ∃ Q, w.heap.size = Q := ⟨_, rfl⟩
    have HQ := Lib.hid hQ
    obtain ⟨W1, hW1⟩ : ∃ W1, w.alloc (.cells (u8s X).toArray 113) = W1 := ⟨_, rfl⟩
    have HW1 := Lib.hid hW1
    have HP1 : Hid (Pg W1 Q X) := Lib.hid ⟨by rw [← hW1, ← hQ]; exact Blk.new w _ _, hlen⟩
    have HB1 : Hid (Below Q w W1) := Lib.hid (by rw [← hW1, ← hQ]; exact bel_alloc _ _)
    have HFA : Hid ((u8s X).zipIdx.foldl (fun (cs : Array Value) x => cs.setIfInBounds x.snd x.fst) Try.zeroCells113 = (u8s X).toArray) := Lib.hid (fold_all _ _ (by rw [zero_pg, List.size_toArray, u8s_len, u8s_len, hlen, List.length_replicate]))
    have hul : (u8s X).length = 512 := by rw [u8s_len, hlen]
    have HNOT := Lib.hid h
    have CS := Lib.hid (rightSlots_pg Q X W1 HP1.out)
    have hB1m : ∀ m, Below Q w (W1.drewN m) := fun m => ⟨HB1.out.os, HB1.out.tape, HB1.out.output, HB1.out.size, HB1.out.block⟩
    have HBm := Lib.hid hB1m
    clear hs hAt h hQ hW1 hlen hB1m
    go_enter Try.func31, Try.ntmps31
    go_wp2_with (refine wpList_load_list rfl 111 (.tmp 9) rfl ad rfl (u8s X) _ HAt.out.2 Try.underlying111 rfl (by rw [arr_size, u8s_len, HU.out]) ?_)
    rw [HFA.out, HW1.out, HQ.out]
    refine CS.out.mono ?_
    rintro e w2 ⟨rfl, m, rfl⟩
    cases hrs : rsB X with
    | false =>
      go_wp2_with fail
      go_ret2
      exact ⟨rfl, by rw [HQ.out]; exact HBm.out m⟩
    | true =>
      have CD := Lib.hid (rightData_not (HP1.out.drewN m) hrs HNOT.out)
      clear hrs
      go_wp2_with fail
      refine CD.out.mono ?_
      rintro e w3 ⟨rfl, hb3⟩
      have HB3 := Lib.hid ((HBm.out m).trans (hb3.mono (Nat.le_of_lt (Blk.lt HP1.out.1))))
      clear hb3
      go_wp2_with fail
      go_ret2
      exact ⟨rfl, by rw [HQ.out]; exact HB3.out⟩
  · refine (load_len A n c w hn).mono ?_
    rintro e w' ⟨rfl, rfl⟩
    exact ⟨rfl, Below.refl _ _⟩
end Go.Proofs.Ytbkdbnkakjogjaa.Mem
/- lapidaryref05.Load: words for it. -/
namespace Go.Proofs.Ytbkdbnkakjogjaa.Mem
open Go.RowKit Go.Proofs.Ytbkdbnkakjogjaa.Nums
set_option linter.unusedVariables false
set_option linter.unusedSimpArgs false
set_option maxRecDepth 100000
set_option maxHeartbeats 1000000
/-- block g begins with these bytes -/
structure By (w : World) (g : Nat) (X : List UInt8) : Prop where
  lt : g < w.heap.size
  at_ : ∀ (j : Nat) (y : UInt8), X[j]? = some y → w.cell? ⟨g, j, none⟩ = some (.int .u8 (y.toNat : Int))
section
variable {w w' : World} {g : Nat} {X : List UInt8}
theorem By.below {B : Nat} (h : By w g X) (hb : Below B w w') (hg : g < B) : By w' g X := by
  refine ⟨Nat.lt_of_lt_of_le h.lt hb.size, fun j y hy => ?_⟩
  rw [← h.at_ j y hy]
  exact hb.cell hg
theorem By.on (h : By w g X) (hb : Below w.heap.size w w') : By w' g X := h.below hb h.lt
theorem By.drew (h : By w g X) : By w.drew g X := ⟨h.lt, h.at_⟩
theorem By.drewN (h : By w g X) (m : Nat) : By (w.drewN m) g X := ⟨h.lt, h.at_⟩
theorem By.sl (h : By w g X) {a m k : Nat} (ha : a + m ≤ X.length) (hk : m ≤ k) (hm : k ≤ maxLen) : Sl w w.heap.size 1 (some ⟨g, a, none⟩) m k (u8s (sub X a m)) := by
  refine ⟨by rw [u8s_len, sub_len ha, Nat.mul_one], hk, hm, (fun e => by cases e), fun _ => ⟨_, rfl, h.lt, fun j u hu => ?_⟩⟩
  have hj : j < (sub X a m).length := by rw [← u8s_len]; exact (List.getElem?_eq_some_iff.1 hu).1
  rw [sub_len ha] at hj
  obtain ⟨y, hy⟩ : ∃ y, X[a + j]? = some y := ⟨_, List.getElem?_eq_getElem (by omega)⟩
  have e : (u8s (sub X a m))[j]? = some (.int .u8 (y.toNat : Int)) := u8s_get (by rw [sub_get hj]; exact hy)
  rw [e] at hu
  injection hu with hu
  subst hu
  have q : (⟨g, a, none⟩ : Addr).add j = ⟨g, a + j, none⟩ := by rw [← add_flat, add_two, add_flat]
  rw [q]
  exact h.at_ _ y hy
theorem By.of_own {B n c : Nat} (h : w.ownsRow B 5 1 (.slice (some ⟨g, 0, none⟩) n c) n (u8s X)) (hn : 0 < n) : By w g X := by
  obtain ⟨A', c', hv, hs⟩ := Sl.of_own h
  injection hv with h1 _ h3
  subst h1
  obtain ⟨ad, ha, hlt, hat⟩ := hs.at_ hn
  injection ha with ha
  subst ha
  refine ⟨hlt, fun j y hy => ?_⟩
  have := hat j _ (u8s_get hy)
  rwa [add_flat] at this
theorem rg {a m k : Nat} (h : By w g X) (ha : a + m ≤ X.length) (hm : m ≤ 7) (hk : m ≤ k) (hkm : k ≤ maxLen) :
    Calls Try.prog 76 #[.slice (some ⟨g, a, none⟩) m k] w fun e w' => e = .returned (.int .i64 (getN X a m : Nat)) ∧ w = w' :=
  rgetb_any (sub X a m) m k _ w (h.sl ha hk hkm) hm
end
theorem getN_eight {X : List UInt8} {a : Nat} {y : UInt8} (hy : X[a + 7]? = some y) : getN X a 8 = getN X a 7 + y.toNat * 72057594037927936 := by
  unfold getN
  have hl : a + 7 < X.length := (List.getElem?_eq_some_iff.1 hy).1
  have e : (X.drop a).take 8 = (X.drop a).take 7 ++ [y] := by
    rw [show 8 = 7 + 1 from rfl, List.take_add_one, List.getElem?_drop, hy]
    rfl
  rw [e, leN_snoc, List.length_take, List.length_drop]
  congr 2
  rw [show min 7 (X.length - a) = 7 by omega]
theorem infob : (Try.prog.info? 4).map (fun i => (i.zero, i.size, i.bytes)) = some (some (.bool false), 1, 1) := by kernel_rfl
theorem make_bool (w : World) : (Instr.makeSlice 65 (.int .i64 512) (.int .i64 512)).run Try.prog w = .ok (.slice (some ⟨w.heap.size, 0, none⟩) 512 512) (w.alloc (.cells ((List.range 512).map fun _ => Value.bool false).toArray 4)) := by
  obtain ⟨i, hi, hz0, hz1, hz2⟩ := info_part infob
  have hr := run_make (P := Try.prog) w 65 4 i _ Try.underlying65 hi hz0 .i64 .i64 512 512 (by omega) (by omega) (by rw [hz2]; omega) (by omega)
  rw [hz1] at hr
  have e : madeCells #[Value.bool false] (Int.toNat 512 * 1) = ((List.range 512).map fun _ => Value.bool false).toArray := by kernel_rfl
  rw [← e]
  exact hr
end Go.Proofs.Ytbkdbnkakjogjaa.Mem
/- A region that draws its order, by one invariant: each operation is walked once, whatever came ahead of it. -/
namespace Go.Proofs.Ytbkdbnkakjogjaa.Reg
open Go
set_option linter.unusedVariables false
set_option linter.unusedSimpArgs false
def upd (d : Nat → Bool) (i : Nat) : Nat → Bool := fun j => j == i || d j
def updv (v : Nat → Value) (i : Nat) (x : Value) : Nat → Value := fun j => if j = i then x else v j
theorem upd_self (d : Nat → Bool) (i : Nat) : upd d i i = true := by simp [upd]
theorem upd_ne (d : Nat → Bool) {i j : Nat} (h : j ≠ i) : upd d i j = d j := by simp [upd, h]
theorem updv_self (v : Nat → Value) (i : Nat) (x : Value) : updv v i x i = x := by simp [updv]
theorem updv_ne (v : Nat → Value) {i j : Nat} (x : Value) (h : j ≠ i) : updv v i x j = v j := by simp [updv, h]
def dstOf (ops : Array Oper) (j : Nat) : Option Tmp := (ops[j]?).bind (·.dst)
/-- each operation waits for earlier ones alone, and writes a slot of its own -/
def okB (ops : Array Oper) (n : Nat) : Bool := (List.range ops.size).all fun i => match ops[i]? with
  | none => true
  | some o => o.after.toList.all (fun e => !Region.binds .any e || decide (e.on < i)) && (match o.dst with
    | none => true
    | some t => decide (t < n) && (List.range ops.size).all fun j => j == i || decide (dstOf ops j ≠ some t))
section
variable {P : Program} {ops : Array Oper} {Q : Exit → Act → World → Prop} {md : Region.Mode}
theorem filter_less {p q : Nat → Bool} (hpq : ∀ j, q j = true → p j = true) {i : Nat} (hp : p i = true) (hq : q i = false) : ∀ {l : List Nat}, i ∈ l → (l.filter q).length < (l.filter p).length
  | [], h => by cases h
  | a :: l, h => by
    have hle : ∀ l : List Nat, (l.filter q).length ≤ (l.filter p).length := by
      intro l
      induction l with
      | nil => simp
      | cons b l ih =>
        by_cases hb : q b = true
        · simp [List.filter_cons, hb, hpq b hb, ih]
        · by_cases hb' : p b = true
          · simp [List.filter_cons, hb, hb']; omega
          · simp [List.filter_cons, hb, hb', ih]
    rcases List.mem_cons.1 h with rfl | h
    · have := hle l
      simp [List.filter_cons, hp, hq]; omega
    · have ih := filter_less hpq hp hq h
      by_cases hb : q a = true
      · simp [List.filter_cons, hb, hpq a hb]; omega
      · by_cases hb' : p a = true
        · simp [List.filter_cons, hb, hb']; omega
        · simp [List.filter_cons, hb, hb']; omega
theorem all_done (htopo : ∀ i o, ops[i]? = some o → ∀ e ∈ o.after, Region.binds md e = true → e.on < i) {listed : Array Bool} (hs : listed.size = ops.size) (hr : Region.ready md ops listed = []) : ∀ j, j < ops.size → listed.getD j false = true := by
  intro j
  induction j using Nat.strongRecOn with
  | _ j ih =>
    intro hj
    cases hl : listed.getD j false with
    | true => rfl
    | false =>
      exfalso
      have : j ∈ Region.ready md ops listed := by
        rw [mem_ready]
        refine ⟨?_, ops[j], Array.getElem?_eq_getElem hj, fun e he hb => ?_⟩
        · have h1 : j < listed.size := by omega
          simp [Array.getD, h1] at hl ⊢
          exact hl
        · have hlt := htopo j ops[j] (Array.getElem?_eq_getElem hj) e he hb
          exact ih e.on hlt (by omega)
      rw [hr] at this
      cases this
theorem wpAny_inv (htopo : ∀ i o, ops[i]? = some o → ∀ e ∈ o.after, Region.binds md e = true → e.on < i) (I : (Nat → Bool) → Act → World → Prop)
    (hstep : ∀ i o, ops[i]? = some o → ∀ d a w, I d a w → d i = false → (∀ e ∈ o.after, Region.binds md e = true → d e.on = true) → wpOp P ops Q i (I (upd d i)) a w)
    (hend : ∀ d a w, (∀ j, j < ops.size → d j = true) → I d a w → Q .normal a w) :
    ∀ (fuel : Nat) (listed : Array Bool) (a : Act) (w : World), listed.size = ops.size → ((List.range ops.size).filter (fun j => !listed.getD j true)).length ≤ fuel → I (fun j => listed.getD j false) a w → wpAny P md ops Q fuel listed a w := by
  intro fuel
  induction fuel with
  | zero =>
    intro listed a w hs hn hI
    have hr : Region.ready md ops listed = [] := by
      cases hr : Region.ready md ops listed with
      | nil => rfl
      | cons x xs =>
        exfalso
        have hx : x ∈ Region.ready md ops listed := by rw [hr]; simp
        rw [mem_ready] at hx
        obtain ⟨h0, o, ho, _⟩ := hx
        have hlt := (Array.getElem?_eq_some_iff.1 ho).1
        have : x ∈ (List.range ops.size).filter (fun j => !listed.getD j true) := by
          rw [List.mem_filter]
          exact ⟨List.mem_range.2 hlt, by rw [h0]; rfl⟩
        have hlen := List.length_pos_of_mem this
        omega
    exact ⟨hr, hend _ _ _ (all_done htopo hs hr) hI⟩
  | succ fuel ih =>
    intro listed a w hs hn hI
    refine ⟨fun hr => hend _ _ _ (all_done htopo hs hr) hI, fun i hi => ?_⟩
    rw [mem_ready] at hi
    obtain ⟨h0, o, ho, hd⟩ := hi
    have hlt := (Array.getElem?_eq_some_iff.1 ho).1
    have hlt' : i < listed.size := by omega
    have hdi : listed.getD i false = false := by
      simp [Array.getD, hlt'] at h0 ⊢
      exact h0
    refine wpOp_mono (fun a' w' hI' => ih _ _ _ (by simpa using hs) ?_ ?_) (hstep i o ho _ a w hI hdi hd)
    · have := filter_less (p := fun j => !listed.getD j true) (q := fun j => !(listed.setIfInBounds i true).getD j true) (i := i) (l := List.range ops.size) (fun j hj => by
        by_cases hji : j = i
        · subst hji; simp [h0]
        · rw [getD_set_ne true (Ne.symm hji)] at hj; exact hj) (by simp [h0]) (by simp [hlt']) (List.mem_range.2 hlt)
      omega
    · have : (fun j => (listed.setIfInBounds i true).getD j false) = upd (fun j => listed.getD j false) i := by
        funext j
        by_cases hji : j = i
        · subst hji; simp [upd, hlt']
        · rw [getD_set_ne false (Ne.symm hji), upd_ne _ hji]
      rw [this]
      exact hI'
/-- what the slots hold behind the operations that are done -/
structure Ev (ops : Array Oper) (base : Act) (d : Nat → Bool) (vals : Nat → Value) (a : Act) : Prop where
  defers : a.defers = base.defers
  size : a.tmps.size = base.tmps.size
  done : ∀ j t, dstOf ops j = some t → d j = true → a.tmps[t]? = some (vals j)
  rest : ∀ t, (∀ j, dstOf ops j = some t → d j = false) → a.tmps[t]? = base.tmps[t]?
theorem okB_spec {n : Nat} (h : okB ops n = true) {i : Nat} {o : Oper} (ho : ops[i]? = some o) : (∀ e ∈ o.after, Region.binds .any e = true → e.on < i) ∧ ∀ t, o.dst = some t → t < n ∧ ∀ j, j ≠ i → dstOf ops j ≠ some t := by
  unfold okB at h
  rw [List.all_eq_true] at h
  have h1 := h i (List.mem_range.2 (Array.getElem?_eq_some_iff.1 ho).1)
  simp only [ho, Bool.and_eq_true, List.all_eq_true] at h1
  obtain ⟨h1, h2⟩ := h1
  refine ⟨fun e he hb => ?_, fun t ht => ?_⟩
  · have := h1 e (by simpa using he)
    simpa [hb] using this
  · simp only [ht, Bool.and_eq_true, decide_eq_true_eq, List.all_eq_true, Bool.or_eq_true, beq_iff_eq] at h2
    refine ⟨h2.1, fun j hj => ?_⟩
    by_cases hlt : j < ops.size
    · exact (h2.2 j (List.mem_range.2 hlt)).resolve_left hj
    · have : ops[j]? = none := Array.getElem?_eq_none (by omega)
      simp [dstOf, this]
theorem Ev.step {base a : Act} {d : Nat → Bool} {vals : Nat → Value} (ev : Ev ops base d vals a) (hB : okB ops base.tmps.size = true) {i : Nat} {o : Oper} (ho : ops[i]? = some o) (v : Value) : Ev ops base (upd d i) (updv vals i v) (a.put o.dst v) := by
  have hdst : dstOf ops i = o.dst := by simp [dstOf, ho]
  cases hd : o.dst with
  | none =>
    rw [hd] at hdst
    refine ⟨ev.defers, ev.size, fun j t ht hj => ?_, fun t ht => ?_⟩
    · have hji : j ≠ i := fun e => by rw [e, hdst] at ht; cases ht
      rw [updv_ne _ _ hji]
      rw [upd_ne _ hji] at hj
      exact ev.done j t ht hj
    · refine ev.rest t fun j hj => ?_
      have hji : j ≠ i := fun e => by rw [e, hdst] at hj; cases hj
      have := ht j hj
      rwa [upd_ne _ hji] at this
  | some s =>
    obtain ⟨hs, hne⟩ := (okB_spec hB ho).2 s hd
    rw [hd] at hdst
    refine ⟨ev.defers, by simpa [Act.put] using ev.size, fun j t ht hj => ?_, fun t ht => ?_⟩
    · by_cases hji : j = i
      · subst hji
        rw [hdst] at ht
        injection ht with ht
        subst ht
        rw [updv_self]
        simp [Act.put, ev.size, hs]
      · have hst : s ≠ t := fun e => hne j hji (by rw [e]; exact ht)
        rw [updv_ne _ _ hji]
        rw [upd_ne _ hji] at hj
        simp only [Act.put]
        rw [Array.getElem?_setIfInBounds_ne hst]
        exact ev.done j t ht hj
    · have hst : s ≠ t := fun e => by
        have := ht i (by rw [hdst, e])
        rw [upd_self] at this
        cases this
      simp only [Act.put]
      rw [Array.getElem?_setIfInBounds_ne hst]
      refine ev.rest t fun j hj => ?_
      have hji : j ≠ i := fun e => hst (by rw [e, hdst] at hj; injection hj)
      have := ht j hj
      rwa [upd_ne _ hji] at this
/-- the frame behind the region -/
def fin (vals : Nat → Value) : List Oper → Nat → Act → Act
  | [], _, a => a
  | o :: l, k, a => fin vals l (k + 1) (a.put o.dst (vals k))
theorem put_size (a : Act) (t : Option Tmp) (v : Value) : (a.put t v).tmps.size = a.tmps.size := by
  cases t <;> simp [Act.put]
theorem fin_ev (vals : Nat → Value) {base : Act} (hB : okB ops base.tmps.size = true) : ∀ (l : List Oper) (k : Nat) (a : Act), (∀ j, l[j]? = ops[k + j]?) → Ev ops base (fun j => decide (j < k)) vals a → Ev ops base (fun j => decide (j < k + l.length)) vals (fin vals l k a)
  | [], k, a, _, h => h
  | o :: l, k, a, hl, h => by
    have h0 : ops[k]? = some o := by simpa using (hl 0).symm
    have h1 := h.step hB h0 (vals k)
    have e1 : upd (fun j => decide (j < k)) k = fun j => decide (j < k + 1) := by
      funext j; simp only [upd]
      by_cases hjk : j = k
      · subst hjk; simp
      · by_cases hj : j < k
        · simp [hj]; omega
        · have : ¬ j < k + 1 := by omega
          simp [hj, hjk, this]
    have e2 : updv vals k (vals k) = vals := by
      funext j; simp only [updv]; split
      · rename_i e; rw [e]
      · rfl
    rw [e1, e2] at h1
    have := fin_ev vals hB l (k + 1) (a.put o.dst (vals k)) (fun j => by have := hl (j + 1); simpa [Nat.add_assoc, Nat.add_comm 1 j] using this) h1
    simpa [fin, Nat.add_assoc, Nat.add_comm 1 l.length] using this
theorem Ev.unique {base a b : Act} {d d' : Nat → Bool} {vals : Nat → Value} (h : Ev ops base d vals a) (k : Ev ops base d' vals b) (hd : ∀ j, j < ops.size → d j = true) (hd' : ∀ j, j < ops.size → d' j = true) : a = b := by
  obtain ⟨ta, da⟩ := a
  obtain ⟨tb, db⟩ := b
  have e1 : da = db := h.defers.trans k.defers.symm
  have e2 : ta = tb := by
    apply Array.ext_getElem?
    intro t
    by_cases hx : ∃ j, dstOf ops j = some t
    · obtain ⟨j, hj⟩ := hx
      have hlt : j < ops.size := by
        rcases Nat.lt_or_ge j ops.size with h' | h'
        · exact h'
        · simp [dstOf, Array.getElem?_eq_none h'] at hj
      exact (h.done j t hj (hd j hlt)).trans (k.done j t hj (hd' j hlt)).symm
    · exact (h.rest t fun j hj => absurd ⟨j, hj⟩ hx).trans (k.rest t fun j hj => absurd ⟨j, hj⟩ hx).symm
  rw [e1, e2]
/-- one operation, whatever came ahead -/
def Step (P : Program) (ops : Array Oper) (Q : Exit → Act → World → Prop) (base : Act) (R : (Nat → Bool) → (Nat → Value) → World → Prop) (k : Nat) (o : Oper) : Prop :=
  ∀ d vals a w, R d vals w → d k = false → (∀ e ∈ o.after.toList, Region.binds .any e = true → d e.on = true) → Ev ops base d vals a →
    ∀ K : Act → World → Prop, (∀ v w', R (upd d k) (updv vals k v) w' → K (a.put o.dst v) w') → if Region.wanted o (yielded ops a.tmps) = true then o.wp P a w K Q else K (a.put o.dst undef) w
def Steps (P : Program) (ops : Array Oper) (Q : Exit → Act → World → Prop) (base : Act) (R : (Nat → Bool) → (Nat → Value) → World → Prop) : Nat → List Oper → Prop
  | _, [] => True
  | k, o :: l => Step P ops Q base R k o ∧ Steps P ops Q base R (k + 1) l
theorem Steps.at_ {base : Act} {R : (Nat → Bool) → (Nat → Value) → World → Prop} : ∀ {l : List Oper} {k j : Nat} {o : Oper}, Steps P ops Q base R k l → l[j]? = some o → Step P ops Q base R (k + j) o
  | [], _, _, _, _, h => by simp at h
  | o :: l, k, 0, o', hs, h => by simp at h; subst h; exact hs.1
  | o :: l, k, j + 1, o', hs, h => by
    have := hs.2.at_ (j := j) (o := o') (by simpa using h)
    rwa [show k + 1 + j = k + (j + 1) by omega] at this
theorem wp_region_inv {id : Nat} {base : Act} {w : World} (hm : P.follows .mixedOrders = true) (hB : okB ops base.tmps.size = true) (R : (Nat → Bool) → (Nat → Value) → World → Prop)
    (h0 : R (fun _ => false) (fun _ => undef) w.drew) (hs : Steps P ops Q base R 0 ops.toList)
    (hend : ∀ d vals w', (∀ j, j < ops.size → d j = true) → R d vals w' → Q .normal (fin vals ops.toList 0 base) w') : (Code.region id ops true).wp P Q base w := by
  refine wp_region_any hm ?_
  refine wpAny_inv (md := .any) (fun i o ho => (okB_spec hB ho).1) (fun d a w => ∃ vals, R d vals w ∧ Ev ops base d vals a) ?_ ?_ _ _ _ _ (by simp) ?_ ?_
  · rintro i o ho d a w' ⟨vals, hR, ev⟩ hd hdep
    have hst := hs.at_ (j := i) (o := o) (by simpa using ho)
    rw [Nat.zero_add] at hst
    have h1 := hst d vals a w' hR hd (fun e he hb => hdep e (by simpa using he) hb) ev (fun a' w'' => ∃ vals', R (upd d i) vals' w'' ∧ Ev ops base (upd d i) vals' a') (fun v w'' hR' => ⟨_, hR', ev.step hB ho v⟩)
    unfold wpOp
    simp only [ho]
    split
    · rename_i hw; rw [if_pos hw] at h1; exact .inl h1
    · rename_i hw; rw [if_neg hw] at h1; exact h1
  · rintro d a w' hd ⟨vals, hR, ev⟩
    have hf := fin_ev vals hB ops.toList 0 base (by simp) ⟨rfl, rfl, fun j t _ hj => by simp at hj, fun t _ => rfl⟩
    have : a = fin vals ops.toList 0 base := ev.unique hf hd (fun j hj => by simpa using hj)
    rw [this]
    exact hend d vals w' hd hR
  · exact Nat.le_trans (List.length_filter_le _ _) (by simp)
  · have e : (fun j => (Array.replicate ops.size false).getD j false) = fun _ => false := by
      funext j
      by_cases hj : j < ops.size
      · simp [Array.getD, hj]
      · simp [Array.getD, hj]
    rw [e]
    exact ⟨fun _ => undef, h0, rfl, rfl, fun j t _ hj => by simp at hj, fun t _ => rfl⟩
theorem Steps.nil {base : Act} {R : (Nat → Bool) → (Nat → Value) → World → Prop} {k : Nat} : Steps P ops Q base R k [] := trivial
theorem Steps.cons {base : Act} {R : (Nat → Bool) → (Nat → Value) → World → Prop} {k k' : Nat} {o : Oper} {l : List Oper} (hk : k' = k + 1) (h : Step P ops Q base R k o) (hl : Steps P ops Q base R k' l) : Steps P ops Q base R k (o :: l) := by subst hk; exact ⟨h, hl⟩
theorem wp_region_inv_lit {id : Nat} {l : List Oper} {base : Act} {w : World} (hm : P.follows .mixedOrders = true) (hB : okB l.toArray base.tmps.size = true) (R : (Nat → Bool) → (Nat → Value) → World → Prop)
    (h0 : R (fun _ => false) (fun _ => undef) w.drew) (hs : ∀ Q', Steps P l.toArray Q' base R 0 l)
    (hend : ∀ d vals w', (∀ j, j < l.length → d j = true) → R d vals w' → Q .normal (fin vals l 0 base) w') : (Code.region id l.toArray true).wp P Q base w :=
  wp_region_inv hm hB R h0 (hs Q) (fun d vals w' hd hR => hend d vals w' (by simpa using hd) hR)
theorem dep {l : List Edge} {d : Nat → Bool} (h : ∀ e ∈ l, Region.binds .any e = true → d e.on = true) (n : Nat) (hn : l.any (fun e => e.on == n && Region.binds .any e) = true) : d n = true := by
  obtain ⟨e, he, hb⟩ := List.any_eq_true.1 hn
  simp only [Bool.and_eq_true, beq_iff_eq] at hb
  rw [← hb.1]
  exact h e he hb.2
theorem Ev.out {base a : Act} {d : Nat → Bool} {vals : Nat → Value} (ev : Ev ops base d vals a) (t : Nat) (ht : ops.all (fun o => o.dst != some t) = true) : a.tmps[t]? = base.tmps[t]? := by
  refine ev.rest t fun j hj => ?_
  cases ho : ops[j]? with
  | none => simp [dstOf, ho] at hj
  | some o =>
    have := (Array.all_eq_true_iff_forall_mem.1 ht) o (Array.mem_of_getElem? ho)
    simp [dstOf, ho] at hj
    simp [hj] at this
theorem Ev.old {base a : Act} {d : Nat → Bool} {vals : Nat → Value} (ev : Ev ops base d vals a) (t j0 : Nat) (ht : (List.range ops.size).all (fun j => j == j0 || dstOf ops j != some t) = true) (h0 : d j0 = false) : a.tmps[t]? = base.tmps[t]? := by
  refine ev.rest t fun j hj => ?_
  by_cases e : j = j0
  · rw [e]; exact h0
  · have hlt : j < ops.size := by
      rcases Nat.lt_or_ge j ops.size with h' | h'
      · exact h'
      · simp [dstOf, Array.getElem?_eq_none h'] at hj
    have := (List.all_eq_true.1 ht) j (List.mem_range.2 hlt)
    simp [e, hj] at this
/-- the slots whose values are known ahead -/
def Fx (fx : Nat → Option Value) (d : Nat → Bool) (vals : Nat → Value) : Prop := ∀ k v, fx k = some v → d k = true → vals k = v
theorem Fx.step {fx : Nat → Option Value} {d : Nat → Bool} {vals : Nat → Value} (h : Fx fx d vals) {k : Nat} {v : Value} (hk : fx k = none ∨ fx k = some v) : Fx fx (upd d k) (updv vals k v) := by
  intro j u hj hd
  by_cases hjk : j = k
  · subst hjk
    rw [updv_self]
    rcases hk with hk | hk
    · rw [hk] at hj; cases hj
    · rw [hk] at hj; injection hj
  · rw [updv_ne _ _ hjk]
    rw [upd_ne _ hjk] at hd
    exact h j u hj hd
theorem Fx.init (fx : Nat → Option Value) (vals : Nat → Value) : Fx fx (fun _ => false) vals := fun _ _ _ h => by cases h
theorem Ev.got {base a : Act} {d : Nat → Bool} {vals : Nat → Value} {fx : Nat → Option Value} (ev : Ev ops base d vals a) (h : Fx fx d vals) (j t : Nat) (v : Value) (ht : dstOf ops j = some t) (hv : fx j = some v) (hd : d j = true) : a.tmps[t]? = some v := by
  rw [ev.done j t ht hd, h j v hv hd]
theorem yielded_of {j t : Nat} {b : Bool} {tmps : Array Value} (hj : dstOf ops j = some t) (x : tmps[t]? = some (.bool b)) : yielded ops tmps j = some b := by
  unfold dstOf at hj
  unfold yielded
  rw [hj]
  simp [x]
theorem wanted_of {o : Oper} {j : Nat} {b : Bool} {y : Nat → Option Bool} (hg : o.guard = some (j, b)) (hy : y j = some b) : Region.wanted o y = true := by simp [Region.wanted, hg, hy]
theorem wanted_not {o : Oper} {j : Nat} {b b' : Bool} {y : Nat → Option Bool} (hg : o.guard = some (j, b)) (hy : y j = some b') (hne : b' ≠ b) : ¬ Region.wanted o y = true := by simp [Region.wanted, hg, hy, hne]
theorem wanted_none {o : Oper} {y : Nat → Option Bool} (hg : o.guard = none) : Region.wanted o y = true := by simp [Region.wanted, hg]
theorem eval_of {a : Act} {t : Nat} {v : Value} (x : a.tmps[t]? = some v) : a.eval (.tmp t) = v := by simp [Act.eval, x]
end
end Go.Proofs.Ytbkdbnkakjogjaa.Reg
/- Whole blocks stored in a drawn region (for lapidaryref05.Load). -/
namespace Go.Proofs.Ytbkdbnkakjogjaa.Mem
open Go.RowKit Go.Proofs.Ytbkdbnkakjogjaa.Nums
set_option linter.unusedVariables false
set_option linter.unusedSimpArgs false
set_option maxRecDepth 100000
theorem step_store_row {P : Program} {ops : Array Oper} {o : Oper} {a : Act} {w : World} {K : Act → World → Prop} {Q : Exit → Act → World → Prop} {E : Prop} (hgd : o.guard = none) (ty : TypeId) (x y : Operand) (ho : o.op = .store ty x y)
    (g : Nat) (cells : Array Value) (hx : a.eval x = .pointer (some ⟨g, 0, none⟩)) (hy : a.eval y = .agg cells) (t : TypeId) (old : Array Value) (hg : w.heap[g]? = some (.cells old t (0, 0))) (hi : (P.info? ty).map (·.size) = some cells.size)
    (hold : old.size = cells.size) (h1 : cells.all (·.oneCell') = true) (hK : K (a.put o.dst undef) (w.setRow g cells)) : if Region.wanted o (yielded ops a.tmps) = true then Oper.wp P o a w K Q else E := by
  rw [if_pos (by simp [Region.wanted, hgd])]
  exact wp_store_row ty x y ho g cells hx hy t old hg hi hold h1 hK
theorem setRow_far {w : World} {g h : Nat} {cells : Array Value} (hne : g ≠ h) : (w.setRow h cells).heap[g]? = w.heap[g]? := by
  unfold World.setRow
  simp [Array.getElem?_modify, hne, Ne.symm hne]
theorem setRow_size (w : World) (h : Nat) (cells : Array Value) : (w.setRow h cells).heap.size = w.heap.size := by
  unfold World.setRow
  simp
theorem row_at {w : World} {g : Nat} {t : TypeId} {cs cells : Array Value} (hb : Blk w g t cs) : Blk (w.setRow g cells) g t cells := by
  unfold Blk at hb ⊢
  unfold World.setRow
  simp [Array.getElem?_modify, hb]
theorem bel_row {U w : World} {g : Nat} {cells : Array Value} (h : Below U.heap.size U w) (hg : U.heap.size ≤ g) : Below U.heap.size U (w.setRow g cells) :=
  ⟨h.os, h.tape, h.output, by rw [setRow_size]; exact h.size, fun k hk => (setRow_far (by omega)).trans (h.block k hk)⟩
/-- what is there while the tuple is made -/
structure TM (U w : World) (m : Nat) (d : List UInt8) (BX : Option Addr → Nat → Array Value) (b41 b42 b43 b44 : Bool) (v41 v42 v43 : Value) : Prop where
  bel : Below U.heap.size U w
  c1 : b41 = true → ∃ A8 c8, v41 = .slice A8 m c8 ∧ OwnB w U.heap.size (.slice A8 m c8) m (u8s d)
  c2 : b42 = true → ∀ A8 c8, v41 = .slice A8 m c8 → v42 = .agg (BX A8 c8)
  c3 : b43 = true → ∃ T cs, v43 = .pointer (some ⟨T, 0, none⟩) ∧ U.heap.size ≤ T ∧ Blk w T 33 cs ∧ cs.size = 6 ∧ (b44 = true → ∀ A8 c8, v41 = .slice A8 m c8 → cs = BX A8 c8)
  o1 : b42 = true → b41 = true
  o2 : b44 = true → b42 = true ∧ b43 = true
section
variable {U w w' : World} {m : Nat} {d : List UInt8} {BX : Option Addr → Nat → Array Value} {b41 b42 b43 b44 : Bool} {v41 v42 v43 : Value}
theorem same_bx {v : Value} {A8 A9 : Option Addr} {c8 c9 : Nat} (e : v = .slice A8 m c8) (e9 : v = .slice A9 m c9) : BX A8 c8 = BX A9 c9 := by
  rw [e] at e9
  injection e9 with h1 _ h2
  rw [h1, h2]
theorem tm_new (U : World) (m : Nat) (d : List UInt8) (BX : Option Addr → Nat → Array Value) (v41 v42 v43 : Value) : TM U U.drew m d BX false false false false v41 v42 v43 :=
  ⟨⟨rfl, rfl, rfl, Nat.le_refl _, fun _ _ => rfl⟩, nofun, nofun, nofun, nofun, nofun⟩
theorem TM.copy (h : TM U w m d BX false b42 b43 b44 v41 v42 v43) {A8 : Option Addr} {c8 : Nat} (ho : OwnB w' w.heap.size (.slice A8 m c8) m (u8s d)) (hb : Below w.heap.size w w') : TM U w' m d BX true b42 b43 b44 (.slice A8 m c8) v42 v43 := by
  have h42 : b42 = false := by cases b42; rfl; exact absurd (h.o1 rfl) (by simp)
  subst h42
  have h44 : b44 = false := by cases b44; rfl; exact absurd (h.o2 rfl).1 (by simp)
  subst h44
  refine ⟨h.bel.trans (hb.mono h.bel.size), fun _ => ⟨A8, c8, rfl, ?_⟩, nofun, fun k => ?_, nofun, nofun⟩
  · exact own_mono ho h.bel.size
  · obtain ⟨T, cs, e, hT, hbk, hs, _⟩ := h.c3 k
    exact ⟨T, cs, e, hT, hbk.below hb hbk.lt, hs, nofun⟩
theorem TM.build (h : TM U w m d BX true false b43 b44 v41 v42 v43) : ∃ A8 c8, v41 = .slice A8 m c8 ∧ TM U w m d BX true true b43 b44 v41 (.agg (BX A8 c8)) v43 := by
  obtain ⟨A8, c8, e, ho⟩ := h.c1 rfl
  have h44 : b44 = false := by cases b44; rfl; exact absurd (h.o2 rfl).1 (by simp)
  subst h44
  exact ⟨A8, c8, e, h.bel, fun _ => ⟨A8, c8, e, ho⟩, fun _ A9 c9 e9 => congrArg Value.agg (same_bx e e9), fun k => by obtain ⟨T, cs, e, hT, hbk, hs, _⟩ := h.c3 k; exact ⟨T, cs, e, hT, hbk, hs, nofun⟩, fun _ => rfl, nofun⟩
theorem TM.alloc_ (h : TM U w m d BX b41 b42 false b44 v41 v42 v43) {cs : Array Value} (hs : cs.size = 6) : TM U (w.alloc (.cells cs 33)) m d BX b41 b42 true b44 v41 v42 (.pointer (some ⟨w.heap.size, 0, none⟩)) := by
  have h44 : b44 = false := by cases b44; rfl; exact absurd (h.o2 rfl).2 (by simp)
  subst h44
  refine ⟨h.bel.alloc h.bel.size _, fun k => ?_, h.c2, fun _ => ⟨_, cs, rfl, h.bel.size, Blk.new _ _ _, hs, nofun⟩, h.o1, nofun⟩
  obtain ⟨A8, c8, e, ho⟩ := h.c1 k
  exact ⟨A8, c8, e, own_keep ho fun g hg => (bel_alloc w _).block g (World.ownsRow.lt ho g hg).2⟩
theorem TM.store (h : TM U w m d BX true true true false v41 v42 v43) (hsz : ∀ A c, (BX A c).size = 6) : ∃ A8 c8 T cs, v42 = .agg (BX A8 c8) ∧ v43 = .pointer (some ⟨T, 0, none⟩) ∧ Blk w T 33 cs ∧ cs.size = 6 ∧ TM U (w.setRow T (BX A8 c8)) m d BX true true true true v41 v42 v43 := by
  obtain ⟨A8, c8, e, ho⟩ := h.c1 rfl
  obtain ⟨T, cs, eT, hT, hbk, hs, _⟩ := h.c3 rfl
  refine ⟨A8, c8, T, cs, h.c2 rfl A8 c8 e, eT, hbk, hs, bel_row h.bel hT, fun _ => ⟨A8, c8, e, own_keep ho fun g hg => setRow_far (fun e2 => own_blk_ne ho hbk (by decide) (by rw [hg, e2]))⟩, h.c2, fun _ => ⟨T, BX A8 c8, eT, hT, row_at hbk, hsz _ _, fun _ A9 c9 e9 => same_bx e e9⟩, fun _ => rfl, fun _ => ⟨rfl, rfl⟩⟩
end
end Go.Proofs.Ytbkdbnkakjogjaa.Mem
