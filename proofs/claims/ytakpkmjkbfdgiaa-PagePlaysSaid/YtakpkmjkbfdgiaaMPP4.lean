/- Texts LoadC to LPagePlays, one behind the other. -/
import Derived.Test.YtakpkmjkbfdgiaaMPP3
/- the marks that rightData makes: which bytes are of a version. -/
namespace Go.Proofs.Ytakpkmjkbfdgiaa.Mem
open Go.RowKit Go.Proofs.Ytakpkmjkbfdgiaa.Nums
set_option linter.unusedVariables false
set_option linter.unusedSimpArgs false
set_option maxRecDepth 100000
set_option maxHeartbeats 1000000
/-- is byte i of one of the first k slots' versions? -/
def mkf (L : SL) : Nat → Nat → Bool
  | 0, _ => false
  | k + 1, i => mkf L k i || match (L[k]?).join with
    | none => false
    | some (v, f) => decide (f ≤ i) && decide (i < f + v.sz)
section
variable {X : List UInt8} {L : SL} {st : Nat}
theorem mkf_none {k : Nat} (h : L[k]? = some none) : mkf L (k + 1) = mkf L k := by
  funext i
  show (mkf L k i || match (L[k]?).join with | none => false | some (v, f) => _) = _
  rw [h]
  exact Bool.or_false _
theorem mkf_some {k : Nat} {v : Ver} {f : Nat} (h : L[k]? = some (some (v, f))) (i : Nat) : mkf L (k + 1) i = (mkf L k i || (decide (f ≤ i) && decide (i < f + v.sz))) := by
  show (mkf L k i || match (L[k]?).join with | none => false | some (v, f) => _) = _
  rw [h]
  rfl
theorem mkf_true : ∀ {k i : Nat}, mkf L k i = true → ∃ (j : Nat) (v : Ver) (f : Nat), j < k ∧ L[j]? = some (some (v, f)) ∧ f ≤ i ∧ i < f + v.sz
  | 0, i, h => by cases h
  | k + 1, i, h => by
    cases ho : (L[k]?).join with
    | none =>
      have e : mkf L (k + 1) i = (mkf L k i || false) := by
        show (mkf L k i || match (L[k]?).join with | none => false | some (v, f) => _) = _
        rw [ho]
      rw [e, Bool.or_false] at h
      obtain ⟨j, v, f, hj, hr⟩ := mkf_true h
      exact ⟨j, v, f, by omega, hr⟩
    | some x =>
      obtain ⟨v, f⟩ := x
      have hk : L[k]? = some (some (v, f)) := by
        cases hl : L[k]? with
        | none => rw [hl] at ho; cases ho
        | some o =>
          rw [hl] at ho
          exact congrArg some ho
      rw [mkf_some hk, Bool.or_eq_true, Bool.and_eq_true, decide_eq_true_eq, decide_eq_true_eq] at h
      rcases h with h | ⟨h1, h2⟩
      · obtain ⟨j, v, f, hj, hr⟩ := mkf_true h
        exact ⟨j, v, f, by omega, hr⟩
      · exact ⟨k, v, f, by omega, hk, h1, h2⟩
theorem mkf_mem : ∀ {k i j : Nat} {v : Ver} {f : Nat}, j < k → L[j]? = some (some (v, f)) → f ≤ i → i < f + v.sz → mkf L k i = true
  | 0, _, _, _, _, h, _, _, _ => absurd h (by omega)
  | k + 1, i, j, v, f, h, hj, h1, h2 => by
    by_cases e : j = k
    · subst e
      rw [mkf_some hj, decide_eq_true h1, decide_eq_true h2]
      simp
    · have h3 := mkf_mem (i := i) (show j < k by omega) hj h1 h2
      show (mkf L k i || _) = true
      rw [h3]
      rfl
/-- no byte of a slot's version is another one's -/
theorem Has.fresh (h : Has X L st) {k i : Nat} {v : Ver} {f : Nat} (hk : L[k]? = some (some (v, f))) (h1 : f ≤ i) (h2 : i < f + v.sz) : mkf L k i = false := by
  cases hm : mkf L k i with
  | false => rfl
  | true =>
    obtain ⟨j, v', f', hj, hv, h3, h4⟩ := mkf_true hm
    rcases h.apart j k v' f' v f hv hk (by omega) with h5 | h5 <;> omega
/-- what no version has is 0 -/
theorem Has.zero (h : Has X L st) {i : Nat} (h1 : 4 + 4 * L.length ≤ i) (h2 : i < 512) (hm : mkf L L.length i = false) : X[i]? = some 0 := by
  refine h.rest i h1 h2 fun s v f hs => ?_
  apply Classical.byContradiction
  intro hn
  have hl := (List.getElem?_eq_some_iff.1 hs).1
  rw [mkf_mem hl hs (by omega) (by omega)] at hm
  cases hm
end
/-- a block of 512 marks -/
def MB (w : World) (g : Nat) (t : TypeId) (m : Nat → Bool) : Prop := Blk w g t ((List.range 512).map fun i => Value.bool (m i)).toArray
theorem MB.cell {w : World} {g : Nat} {t : TypeId} {m : Nat → Bool} (h : MB w g t m) {i : Nat} (hi : i < 512) : w.cell? ⟨g, i, none⟩ = some (.bool (m i)) := by
  rw [Blk.cell h]
  simp [hi]
theorem MB.put {w : World} {g : Nat} {t : TypeId} {m : Nat → Bool} (h : MB w g t m) (i : Nat) : MB (w.setCell ⟨g, i, none⟩ (.bool true)) g t (fun j => m j || j == i) := by
  have hp := Blk.set_ h i (.bool true)
  have e : ((List.range 512).map fun j => Value.bool (m j)).toArray.setIfInBounds i (.bool true) = ((List.range 512).map fun j => Value.bool (m j || j == i)).toArray := by
    apply Array.toList_inj.1
    rw [Array.toList_setIfInBounds]
    apply List.ext_getElem?
    intro j
    by_cases hj : j < 512
    · by_cases hij : i = j
      · subst hij
        simp [hj]
      · simp [hj, List.getElem?_set, hij, Ne.symm hij]
    · simp [hj, List.getElem?_set]
  rw [e] at hp
  exact hp
end Go.Proofs.Ytakpkmjkbfdgiaa.Mem
/- page.rightData of a page that Has. -/
namespace Go.Proofs.Ytakpkmjkbfdgiaa.Mem
open Go.RowKit Go.Proofs.Ytakpkmjkbfdgiaa.Nums
set_option linter.unusedVariables false
set_option linter.unusedSimpArgs false
set_option maxRecDepth 100000
set_option maxHeartbeats 1000000
theorem Has.frB {X : List UInt8} {L : SL} {st : Nat} (h : Has X L st) {s : Nat} {o : Option (Ver × Nat)} (hs : L[s]? = some o) : Mem.frB X s = o.isNone := by
  have h1 := h.szS hs
  unfold Mem.frB
  cases o with
  | none =>
    have h2 := h.frS0 hs
    have e1 : get2 X (4 + 4 * s) = 0 := h2
    have e2 : get2 X (6 + 4 * s) = 0 := h1
    rw [e1, e2]
    rfl
  | some x =>
    obtain ⟨v, f⟩ := x
    have e2 : get2 X (6 + 4 * s) = v.sz := h1
    have e3 : (v.sz == 0) = false := by rw [beq_eq_false_iff_ne]; unfold Ver.sz; omega
    rw [e2, e3, Bool.and_false]
    rfl
theorem zero_mb : Try.zeroCells154 = ((List.range 512).map fun _ => Value.bool false).toArray := by kernel_rfl
theorem rightData_has {P : Nat} {X : List UInt8} {L : SL} {st : Nat} {w : World} (hp : Pg w P X) (h : Has X L st) :
    Calls Try.prog 75 #[.pointer (some ⟨P, 0, none⟩)] w fun e w' => e = .returned (.bool true) ∧ Below w.heap.size w w' := by
  have HX := Lib.hid h
  have htop := h.top
  have hall := h.all
  have CS : Hid (∀ w0, Pg w0 P X → Calls Try.prog 25 #[.pointer (some ⟨P, 0, none⟩)] w0 fun e w' => e = .returned (.int .i64 (L.length : Nat)) ∧ w0 = w') := Lib.hid (fun w0 h0 => by
    have h1 := slots_pg P X w0 h0
    have e : get2 X 0 = L.length := h.slN
    rw [e] at h1
    exact h1)
  have CB : Hid (∀ w0, Pg w0 P X → Calls Try.prog 79 #[.pointer (some ⟨P, 0, none⟩)] w0 fun e w' => e = .returned (.int .i64 (st : Nat)) ∧ w0 = w') := Lib.hid (fun w0 h0 => by
    have h1 := begin_pg P X w0 h0
    have e : get2 X 2 = st := h.bgN
    rw [e] at h1
    exact h1)
  obtain ⟨b0, hb0⟩ : ∃ b0, w.heap.size = b0 := ⟨_, rfl⟩
  obtain ⟨W1, hW1⟩ : ∃ W1, w.alloc (.cells Try.zeroCells154 154) = W1 := ⟨_, rfl⟩
  have HW1 := Lib.hid hW1
  have HB0 := Lib.hid hb0
  have HM1 : Hid (MB W1 b0 154 (mkf L 0)) := Lib.hid (by rw [← hW1, ← hb0, zero_mb]; exact Blk.new w _ _)
  have HP1 : Hid (Pg W1 P X) := Lib.hid (by rw [← hW1]; exact ⟨Blk.alloc hp.1 _, hp.2⟩)
  have HBl1 : Hid (Below b0 w W1) := Lib.hid (by rw [← hW1, ← hb0]; exact bel_alloc _ _)
  have hPb : P < b0 := by rw [← hb0]; exact Blk.lt hp.1
  rw [hb0]
  clear hp h hW1 hb0
  go_enter Try.func75, Try.ntmps75
  go_wp2_with fail
  rw [HW1.out, HB0.out]
  refine (CS.out _ HP1.out).mono ?_
  rintro e w2 ⟨rfl, rfl⟩
  go_wp2_with fail
  go_loopw [11] (fun i wr => ∃ k : Nat, k ≤ L.length ∧ i = .int .i64 k ∧ MB wr b0 154 (mkf L k) ∧ Pg wr P X ∧ Below b0 w wr) (fun i _ => L.length - (intOf i).toNat)
  case atStart => exact ⟨0, by omega, rfl, HM1.out, HP1.out, HBl1.out⟩
  case round =>
    obtain ⟨k, hk, rfl, hmk, hpk, hwk⟩ := hrel
    have HM := Lib.hid hmk
    have HP := Lib.hid hpk
    have HW := Lib.hid hwk
    clear hmk hpk hwk HM1 HP1 HBl1
    by_cases hlt : k < L.length
    · have hlt' : (k : Int) < L.length := by omega
      obtain ⟨o, ho⟩ : ∃ o, L[k]? = some o := ⟨_, List.getElem?_eq_getElem hlt⟩
      have HO := Lib.hid ho
      have CF := Lib.hid (isFree_pg P k X wr HP.out (by omega))
      rw [HX.out.frB ho] at CF
      clear ho
      cases o with
      | none =>
        go_wp2_with fail
        refine CF.out.mono ?_
        rintro e w3 ⟨rfl, m, rfl⟩
        go_wp2_with fail
        go_roundw
        case rel => exact ⟨k + 1, by omega, by go_num, by rw [mkf_none HO.out]; exact HM.out, HP.out.drewN m, ⟨HW.out.os, HW.out.tape, HW.out.output, HW.out.size, HW.out.block⟩⟩
        case measure => simp [intOf]; omega
      | some x =>
        obtain ⟨v, f⟩ := x
        obtain ⟨hvb, hf1, hf2⟩ := HX.out.ver k v f HO.out
        have hsz : v.sz = 30 + v.d.length := rfl
        obtain ⟨z, hz⟩ : ∃ z, v.sz = z := ⟨_, rfl⟩
        have e1 : get2 X (4 + 4 * k) = f := HX.out.frS HO.out
        have e2 : get2 X (6 + 4 * k) = z := by rw [← hz]; exact HX.out.szS HO.out
        rw [hz] at hf2 hsz
        have HZ := Lib.hid hz
        have HSZ := Lib.hid hsz
        have CSp : Hid (∀ w0, Pg w0 P X → Calls Try.prog 98 #[.pointer (some ⟨P, 0, none⟩), .int .i64 (k : Nat)] w0 fun e w' => e = .returned (.tuple #[.int .i64 (f : Nat), .int .i64 (z : Nat)]) ∧ ∃ m, w' = w0.drewN m) := Lib.hid (fun w0 h0 => by
          have h1 := span_pg P k X w0 h0 (by omega)
          rw [e1, e2] at h1
          exact h1)
        have hf1' : ¬ (f : Int) < st := by omega
        have hf2' : ¬ (512 : Int) < (f : Int) + z := by omega
        have hz30 : ¬ (z : Int) < 30 := by omega
        have HF2 := Lib.hid hf2
        clear hvb hsz hz e1 e2
        go_wp2_with fail
        refine CF.out.mono ?_
        rintro e w3 ⟨rfl, m, rfl⟩
        go_wp2_with fail
        refine (CSp.out _ (HP.out.drewN m)).mono ?_
        rintro e w4 ⟨rfl, m2, rfl⟩
        go_wp2_with fail
        refine (CB.out _ (HP.out.drewN (m + m2))).mono ?_
        rintro e w5 ⟨rfl, rfl⟩
        go_wp2_with fail
        go_loopw [7] (fun i wr2 => ∃ j : Nat, f ≤ j ∧ j ≤ f + z ∧ i = .int .i64 j ∧ MB wr2 b0 154 (fun q => mkf L k q || (decide (f ≤ q) && decide (q < j))) ∧ Pg wr2 P X ∧ Below b0 w wr2) (fun i _ => f + z - (intOf i).toNat)
        case atStart =>
          refine ⟨f, by omega, by omega, rfl, ?_, HP.out.drewN _, ⟨HW.out.os, HW.out.tape, HW.out.output, HW.out.size, HW.out.block⟩⟩
          have e : (fun q => mkf L k q || (decide (f ≤ q) && decide (q < f))) = mkf L k := by
            funext q
            cases mkf L k q
            · rw [Bool.false_or, Bool.eq_false_iff]
              simp
            · rfl
          rw [e]
          exact HM.out
        case round =>
          obtain ⟨j, hj1, hj2, rfl, hmj, hpj, hwj⟩ := hrel
          have HM2 := Lib.hid hmj
          have HP2 := Lib.hid hpj
          have HW2 := Lib.hid hwj
          clear hmj hpj hwj HM HP HW CF CSp hf1' hf2' hz30
          by_cases hj : j < f + z
          · have hj' : (j : Int) < (f : Int) + z := by omega
            have hj5 : (j : Int) < 512 := by have := HF2.out; omega
            have x0 := HM2.out.cell (i := j) (by have := HF2.out; omega)
            have hfr := HX.out.fresh HO.out hj1 (by rw [HZ.out]; exact hj)
            have e0 : (mkf L k j || (decide (f ≤ j) && decide (j < j))) = false := by rw [hfr]; simp
            rw [e0] at x0
            have f0 := Blk.frozen HM2.out j
            have HPut := Lib.hid (HM2.out.put j)
            clear hfr e0
            go_wp2_with fail
            go_roundw
            case rel =>
              refine ⟨j + 1, by omega, by omega, by go_num, ?_, ⟨Blk.far HP2.out.1 (show P ≠ b0 by omega) _, HP2.out.2⟩, HW2.out.trans (((Only.refl b0 wr).set_ j (.bool true)).below (Nat.le_of_lt (Blk.lt HM2.out)) (Nat.le_refl _))⟩
              have e : (fun q => (mkf L k q || (decide (f ≤ q) && decide (q < j))) || q == j) = (fun q => mkf L k q || (decide (f ≤ q) && decide (q < j + 1))) := by
                funext q
                cases mkf L k q
                · rw [Bool.false_or, Bool.false_or, Bool.eq_iff_iff]
                  simp
                  omega
                · rfl
              rw [← e]
              exact HPut.out
            case measure => simp [intOf]; omega
          · obtain rfl : j = f + z := by omega
            have hgo := HO.out
            have CA := Lib.hid (at_some P k f z X wr HP2.out (by have : get2 X 0 = L.length := HX.out.slN; omega) (by omega) (HX.out.frS hgo) (by rw [← HZ.out]; exact HX.out.szS hgo) (by have := HSZ.out; omega) HF2.out)
            have hok := Lib.hid (HX.out.okv k v f hgo)
            clear hgo
            go_wp2_with fail
            refine CA.out.mono ?_
            rintro e w6 ⟨rfl, m6, rfl⟩
            obtain ⟨hvb, hf1, hf2⟩ := HX.out.ver k v f HO.out
            obtain ⟨e0, hpre⟩ := split_of hvb (by rw [HX.out.len]; omega)
            have hy := getN_ver (X.take f) (X.drop (f + v.sz)) v.d v.r v.a v.b v.p v.s f hpre (by have := hok.out.r; omega) (by have := hok.out.a; omega) (by have := hok.out.b; omega) hok.out.p hok.out.s
            have e1 : X.take f ++ (verL v.r v.a v.b v.p v.s v.d ++ X.drop (f + v.sz)) = X := e0.symm
            rw [e1] at hy
            obtain ⟨y0, y1, y2, y3, y4, y5⟩ := hy
            have CT := tuple_any P f z (512 - f) _ X (wr.drewN m6) (HP2.out.drewN m6).1 (by rw [HX.out.len]; exact HF2.out) (by have := HSZ.out; omega) (by have := HF2.out; omega) (by omega) (by rw [HX.out.len]; omega)
            rw [y0, y1, y2, y3, y4] at CT
            have HCT := Lib.hid CT
            clear CT hvb hf1 hf2 e0 hpre e1 y0 y1 y2 y3 y4 y5 CA
            go_wp2_with fail
            refine HCT.out.mono ?_
            rintro e w7 ⟨u7, rfl, ho7, hb7⟩
            obtain ⟨A7, c7, rfl, hs7⟩ := Sl.of_own ho7
            have CR := right_any v.r v.a v.b ((v.p : Int) - 1) ((v.s : Int) - 1) A7 (z - 30) c7 w7
            have e8 : z - 30 = v.d.length := by have := HSZ.out; omega
            have e9 : tuOk v.r v.a v.b ((v.p : Int) - 1) ((v.s : Int) - 1) (z - 30) = true := by rw [e8]; exact hok.out.tuOk
            rw [e9] at CR
            have HCR := Lib.hid CR
            have HM7 := Lib.hid (Blk.below (show Blk (wr.drewN m6) b0 _ _ from HM2.out) hb7 (Blk.lt HM2.out))
            have HP7 : Hid (Pg w7 P X) := Lib.hid ⟨Blk.below (HP2.out.drewN m6).1 hb7 (Blk.lt HP2.out.1), HP2.out.2⟩
            have hWm : Below b0 w (wr.drewN m6) := ⟨HW2.out.os, HW2.out.tape, HW2.out.output, HW2.out.size, HW2.out.block⟩
            have HW7 := Lib.hid (hWm.trans (hb7.mono (Nat.le_of_lt (Blk.lt HM2.out))))
            clear CR e8 e9 ho7 hb7 hs7 hWm HCT
            go_wp2_with fail
            refine HCR.out.mono ?_
            rintro e w8 ⟨rfl, hb8⟩
            have HM8 := Lib.hid (Blk.below HM7.out hb8 (Blk.lt HM7.out))
            have HP8 : Hid (Pg w8 P X) := Lib.hid ⟨Blk.below HP7.out.1 hb8 (Blk.lt HP7.out.1), HP7.out.2⟩
            have HW8 := Lib.hid (HW7.out.trans (hb8.mono (Nat.le_of_lt (Blk.lt HM7.out))))
            clear hb8 HCR
            go_wp2_with fail
            go_roundw
            case rel =>
              refine ⟨k + 1, by omega, by go_num, ?_, HP8.out, HW8.out⟩
              have e : mkf L (k + 1) = (fun q => mkf L k q || (decide (f ≤ q) && decide (q < f + z))) := by
                funext q
                rw [mkf_some HO.out, HZ.out]
              rw [e]
              exact HM8.out
            case measure => simp [intOf]; omega
    · obtain rfl : k = L.length := by omega
      go_wp2_with fail
      refine (CS.out _ HP.out).mono ?_
      rintro e w2 ⟨rfl, rfl⟩
      have hL1 : (L.length : Int) ≤ 127 := by omega
      go_wp2_with fail
      go_loopw [8] (fun i wr2 => ∃ j : Nat, 4 + 4 * L.length ≤ j ∧ j ≤ 512 ∧ i = .int .i64 j ∧ MB wr2 b0 154 (mkf L L.length) ∧ Pg wr2 P X ∧ Below b0 w wr2) (fun i _ => 512 - (intOf i).toNat)
      case atStart => exact ⟨4 + 4 * L.length, by omega, by omega, by go_num, HM.out, HP.out, HW.out⟩
      case round =>
        obtain ⟨j, hj1, hj2, rfl, hmj, hpj, hwj⟩ := hrel
        have HM2 := Lib.hid hmj
        have HP2 := Lib.hid hpj
        have HW2 := Lib.hid hwj
        clear hmj hpj hwj HM HP HW
        by_cases hj : j < 512
        · have hj' : (j : Int) < 512 := by omega
          have x0 := HM2.out.cell hj
          cases hm : mkf L L.length j with
          | true =>
            rw [hm] at x0
            clear hm
            go_wp2_with fail
            go_roundw
            case rel => exact ⟨j + 1, by omega, by omega, by go_num, HM2.out, HP2.out, HW2.out⟩
            case measure => simp [intOf]; omega
          | false =>
            rw [hm] at x0
            have x1 := HP2.out.1.cell (HX.out.zero hj1 hj hm)
            clear hm
            go_wp2_with fail
            go_roundw
            case rel => exact ⟨j + 1, by omega, by omega, by go_num, HM2.out, HP2.out, HW2.out⟩
            case measure => simp [intOf]; omega
        · obtain rfl : j = 512 := by omega
          go_wp2_with fail
          go_ret
          exact ⟨rfl, HW2.out⟩
end Go.Proofs.Ytakpkmjkbfdgiaa.Mem
/- page.Load of bytes that are a page's. -/
namespace Go.Proofs.Ytakpkmjkbfdgiaa.Mem
open Go.RowKit Go.Proofs.Ytakpkmjkbfdgiaa.Nums
set_option linter.unusedVariables false
set_option linter.unusedSimpArgs false
set_option maxRecDepth 100000
set_option maxHeartbeats 1000000
theorem run_loadVar_list {P : Program} (w : World) (ad : Addr) (ty : TypeId) (cs : List Value) (d : TypeDesc) (hc : ∀ j v, cs[j]? = some v → w.cell? (ad.add j) = some v)
    (hu : P.underlying ty = some d) (hd : (match d with | .struct _ | .array _ _ => true | _ => false) = true) (hi : (P.info? ty).map (·.size) = some cs.length) :
    (loadVar ty ad).run P w = .ok (.agg cs.toArray) w := by
  have hl := run_loadCells_list (P := P) w ad cs hc
  cases hq : P.info? ty with
  | none => simp [hq] at hi
  | some i =>
    have hs : i.size = cs.length := by simpa [hq] using hi
    have hagg : (isAgg ty).run P w = .ok true w := by
      unfold isAgg
      rw [Sem.run_bind, run_underlying hu w]
      cases d <;> simp_all
    simp [loadVar, Sem.run_bind, hagg, sizeOf, typeInfo, hq, hs, hl]
theorem wpList_load_list {P : Program} {ops : Array Oper} {rest : List Oper} {o : Oper} {a : Act} {w : World} {Q : Exit → Act → World → Prop} (hgd : o.guard = none) (ty : TypeId) (x : Operand) (ho : o.op = .load ty x)
    (ad : Addr) (hx : a.eval x = .pointer (some ad)) (cs : List Value) (d : TypeDesc) (hc : ∀ j v, cs[j]? = some v → w.cell? (ad.add j) = some v)
    (hu : P.underlying ty = some d) (hd : (match d with | .struct _ | .array _ _ => true | _ => false) = true) (hi : (P.info? ty).map (·.size) = some cs.length)
    (h : wpList P ops Q rest (a.put o.dst (.agg cs.toArray)) w) : wpList P ops Q (o :: rest) a w :=
  wpList_plain hgd fun _ hK => by
    unfold Oper.wp execOp
    simp only [ho, hx, Instr.loadAt, Instr.sureAddr, Sem.run_bind, Sem.run_pure, Result.andThen_ok, run_loadVar_list w ad ty cs d hc hu hd hi]
    exact hK _ _ h
theorem fold_put : ∀ (xs : List Value) (k : Nat) (cs : Array Value), k + xs.length ≤ cs.size →
    ((xs.zipIdx k).foldl (fun (cs : Array Value) x => cs.setIfInBounds x.snd x.fst) cs).toList = cs.toList.take k ++ (xs ++ cs.toList.drop (k + xs.length))
  | [], k, cs, _ => by simp
  | x :: xs, k, cs, h => by
    rw [List.length_cons] at h
    rw [List.zipIdx_cons, List.foldl_cons, fold_put xs (k + 1) _ (by rw [Array.size_setIfInBounds]; omega), Array.toList_setIfInBounds, List.length_cons]
    have hk : k < cs.toList.length := by rw [Array.length_toList]; omega
    have e1 : (cs.toList.set k x).take (k + 1) = cs.toList.take k ++ [x] := by
      rw [List.take_add_one, List.getElem?_set_self hk, List.take_set_of_le (Nat.le_refl _)]
      rfl
    have e2 : (cs.toList.set k x).drop (k + 1 + xs.length) = cs.toList.drop (k + (xs.length + 1)) := by
      rw [List.drop_set_of_lt (by omega)]
      congr 1
      omega
    rw [e1, e2]
    simp
theorem fold_all (xs : List Value) (cs : Array Value) (h : xs.length = cs.size) : (xs.zipIdx).foldl (fun (cs : Array Value) x => cs.setIfInBounds x.snd x.fst) cs = xs.toArray := by
  apply Array.toList_inj.1
  rw [fold_put xs 0 cs (by omega), List.take_zero, List.drop_of_length_le (by rw [Array.length_toList]; omega)]
  simp
theorem arr_at (ad : Option Addr) (c : Nat) (w : World) : (Instr.arrayAt 111 (.slice ad 512 c)).run Try.prog w = .ok (.pointer ad) w := by kernel_rfl
theorem arr_size : (Try.prog.info? 111).map (·.size) = some 512 := by kernel_rfl
/-- the last slot is in use, or there is none -/
def Ends (L : SL) : Prop := L.length = 0 ∨ ∃ x, L[L.length - 1]? = some (some x)
theorem Has.rs {X : List UInt8} {L : SL} {st : Nat} (h : Has X L st) (hl : Ends L) : rsB X = true := by
  have e1 : get2 X 0 = L.length := h.slN
  have e2 : get2 X 2 = st := h.bgN
  unfold rsB
  rw [e1, e2, decide_eq_true h.top, decide_eq_true h.all]
  rcases hl with h0 | ⟨x, hx⟩
  · rw [h0]
    rfl
  · rw [h.frB hx]
    simp
theorem load_has {X : List UInt8} {L : SL} {st c : Nat} {A : Option Addr} {w : World} (hs : Sl w w.heap.size 1 A 512 c (u8s X)) (h : Has X L st) (hl : Ends L) :
    Calls Try.prog 31 #[.slice A 512 c] w fun e w' => ∃ Q, e = .returned (.tuple #[.pointer (some ⟨Q, 0, none⟩), .int .i64 0]) ∧ Pg w' Q X ∧ w.heap.size ≤ Q ∧ Below w.heap.size w w' := by
  obtain ⟨ad, rfl, hAt⟩ := hs.at_ (by omega)
  have HAt := Lib.hid hAt
  have HX := Lib.hid h
  have hat := arr_at (some ad) c w
  have HU := Lib.hid h.len
  have hul : (u8s X).length = 512 := by rw [u8s_len, h.len]
  have HRS := Lib.hid (h.rs hl)
  obtain ⟨Q, hQ⟩ : ∃ Q, w.heap.size = Q := ⟨_, rfl⟩
  have HQ := Lib.hid hQ
  obtain ⟨W1, hW1⟩ : ∃ W1, w.alloc (.cells (u8s X).toArray 113) = W1 := ⟨_, rfl⟩
  have HW1 := Lib.hid hW1
  have HP1 : Hid (Pg W1 Q X) := Lib.hid ⟨by rw [← hW1, ← hQ]; exact Blk.new w _ _, h.len⟩
  have HB1 : Hid (Below Q w W1) := Lib.hid (by rw [← hW1, ← hQ]; exact bel_alloc _ _)
  have HFA : Hid ((u8s X).zipIdx.foldl (fun (cs : Array Value) x => cs.setIfInBounds x.snd x.fst) Try.zeroCells113 = (u8s X).toArray) := Lib.hid (fold_all _ _ (by rw [zero_pg, List.size_toArray, u8s_len, u8s_len, h.len, List.length_replicate]))
  clear hs hAt h hQ hW1 hl
  go_enter Try.func31, Try.ntmps31
  go_wp2_with (refine wpList_load_list rfl 111 (.tmp 9) rfl ad rfl (u8s X) _ HAt.out.2 Try.underlying111 rfl (by rw [arr_size, u8s_len, HU.out]) ?_)
  rw [HFA.out, HW1.out, HQ.out]
  have CS := rightSlots_pg Q X W1 HP1.out
  rw [HRS.out] at CS
  refine CS.mono ?_
  rintro e w2 ⟨rfl, m, rfl⟩
  clear CS
  go_wp2_with fail
  refine (rightData_has (HP1.out.drewN m) HX.out).mono ?_
  rintro e w3 ⟨rfl, hb3⟩
  have HP3 : Hid (Pg w3 Q X) := Lib.hid ⟨Blk.below (HP1.out.drewN m).1 hb3 (Blk.lt HP1.out.1), HP1.out.2⟩
  have hB1m : Below Q w (W1.drewN m) := ⟨HB1.out.os, HB1.out.tape, HB1.out.output, HB1.out.size, HB1.out.block⟩
  have HB3 := Lib.hid (hB1m.trans (hb3.mono (Nat.le_of_lt (Blk.lt HP1.out.1))))
  clear hb3 hB1m
  go_wp2_with fail
  go_ret2
  exact ⟨Q, rfl, HP3.out, by rw [HQ.out]; exact Nat.le_refl _, by rw [HQ.out]; exact HB3.out⟩
end Go.Proofs.Ytakpkmjkbfdgiaa.Mem
/- The last slot stays in use. -/
namespace Go.Proofs.Ytakpkmjkbfdgiaa.Mem
open Go.RowKit Go.Proofs.Ytakpkmjkbfdgiaa.Nums
set_option linter.unusedVariables false
theorem Ends.put {L : SL} {q : Nat} {x : Ver × Nat} (h : Ends L) (hq : q ≤ L.length) : Ends (putL L q (some x)) := by
  right
  rw [putL_len hq, putL_get hq]
  by_cases e : max L.length (q + 1) - 1 = q
  · exact ⟨x, by rw [if_pos e]⟩
  · rw [if_neg e]
    rcases h with h | ⟨y, hy⟩
    · exact absurd h (by omega)
    · rw [show max L.length (q + 1) - 1 = L.length - 1 by omega]
      exact ⟨y, hy⟩
theorem Ends.packL {L : SL} (h : Ends L) : Ends (packL L) := by
  rcases h with h | ⟨⟨v, f⟩, hy⟩
  · left
    rw [packL_len, h]
  · right
    rw [packL_len]
    exact ⟨_, packL_some hy⟩
theorem Ends.insS {L : SL} {st : Nat} {v : Ver} (h : Ends L) : Ends (insS L st v).1 := by
  unfold Mem.insS
  split
  · exact Ends.put h.packL (by rw [packL_len]; exact nextL_le L)
  · exact Ends.put h (nextL_le L)
theorem Ends.stamp {L : SL} {s : Nat} {x : Ver × Nat} (h : Ends L) : Ends (L.set s (some x)) := by
  rcases h with h | ⟨y, hy⟩
  · left
    rw [List.length_set, h]
  · right
    rw [List.length_set]
    by_cases e : s = L.length - 1
    · have hl := (List.getElem?_eq_some_iff.1 hy).1
      exact ⟨x, by rw [← e, List.getElem?_set_self (by omega)]⟩
    · exact ⟨y, by rw [List.getElem?_set_ne e]; exact hy⟩
theorem Ends.nil : Ends [] := .inl rfl
theorem Ends.trim {M : SL} {k : Nat} (h : IsTrim M k) : Ends (M.take k) := by
  have h1 := h.le
  rcases Nat.eq_zero_or_pos k with rfl | hk
  · exact .inl (by rw [List.take_zero]; rfl)
  · right
    rw [List.length_take, Nat.min_eq_left h1, List.getElem?_take, if_pos (by omega)]
    exact h.last hk
end Go.Proofs.Ytakpkmjkbfdgiaa.Mem
/- lapidarylaw05.do, which leaves the last slot in use. -/
namespace Go.Proofs.Ytakpkmjkbfdgiaa.Mem
open Go.RowKit Go.Proofs.Ytakpkmjkbfdgiaa.Nums
set_option linter.unusedVariables false
set_option linter.unusedSimpArgs false
set_option maxRecDepth 100000
set_option maxHeartbeats 4000000
theorem stampR_ends {L : SL} (h : Ends L) (i : Int) (U : Nat) (p s : Int) : Ends (stampR L i U p s).2 := by
  unfold stampR
  split
  · split
    · exact h
    · exact Ends.stamp h
  · exact h
theorem freeTo_ends {L L' : SL} {i x : Int} (hf : FreeTo L i x L') (h : Ends L) : Ends L' := by
  rcases hf with ⟨_, _, rfl⟩ | ⟨v, f, k, _, _, ht, rfl⟩
  · exact h
  · exact Ends.trim ht
theorem insR_ends {L : SL} (h : Ends L) (st r a b : Nat) (p s : Int) (d : List UInt8) : Ends (insR L st r a b p s d).2.2.1 := by
  unfold insR
  split
  · split
    · exact h
    · exact Ends.insS h
  · exact h
section
variable {w wr : World} {P R st n c0 : Nat} {L : SL} {A0 : Option Addr}
theorem do_insE (h : Duo w wr P R L st) (hEnd : Ends L) (z i : Int) (r a b : Nat) (p s : Int) (x : List UInt8) (hx : x.length = n) (hs : Sl wr wr.heap.size 1 A0 n c0 (u8s x)) (hr : r < 18446744073709551616) (ha : a < 18446744073709551616) (hb : b < 18446744073709551616) (hz : 0 ≤ z ∧ z ≤ 255) (h4 : ¬ z % 8 = 4) (h5 : ¬ z % 8 = 5) (h6 : ¬ z % 8 = 6) (h7 : ¬ z % 8 = 7) :
    Calls Try.prog 17 #[.pointer (some ⟨P, 0, none⟩), .pointer (some ⟨R, 0, none⟩), .agg #[.int .u8 z, .int .i64 i, .int .u64 r, .int .u64 a, .int .u64 b, .int .i64 p, .int .i64 s, .slice A0 n c0]] wr fun e w' => e = .returned (.tuple #[.pointer (some ⟨P, 0, none⟩), .bool true]) ∧ ∃ L' st', Duo w w' P R L' st' ∧ Ends L' := by
  have HEN := Lib.hid hEnd
  clear hEnd
  have HD := Lib.hid h
  have HS := Lib.hid hs
  obtain ⟨b0, hb0⟩ : ∃ b0, wr.heap.size = b0 := ⟨_, rfl⟩
  obtain ⟨W1, hW1⟩ : ∃ W1, wr.alloc (.cells #[.int .u8 z, .int .i64 i, .int .u64 r, .int .u64 a, .int .u64 b, .int .i64 p, .int .i64 s, .slice A0 n c0] 35) = W1 := ⟨_, rfl⟩
  have HO1 : Hid (Blk W1 b0 35 #[.int .u8 z, .int .i64 i, .int .u64 r, .int .u64 a, .int .u64 b, .int .i64 p, .int .i64 s, .slice A0 n c0]) := Lib.hid (by rw [← hW1, ← hb0]; exact Blk.new wr _ _)
  have HB1 : Hid (Below b0 wr W1) := Lib.hid (by rw [← hW1, ← hb0]; exact bel_alloc _ _)
  have HW1 := Lib.hid hW1
  have HBZ := Lib.hid hb0
  obtain ⟨d, hd⟩ : ∃ d, x.take 230 = d := ⟨_, rfl⟩
  obtain ⟨m, hm⟩ : ∃ m, min n 230 = m := ⟨_, rfl⟩
  have HDL : Hid (d.length = m) := Lib.hid (by rw [← hd, ← hm, List.length_take, hx]; omega)
  have hm230 : m ≤ 230 := by omega
  have HF : Hid (∀ w0, Sl w0 w0.heap.size 1 A0 n c0 (u8s x) → Calls Try.prog 37 #[.agg #[.int .u64 r, .int .u64 a, .int .u64 b, .int .i64 p, .int .i64 s, .slice A0 n c0]] w0 fun e w' => ∃ v, e = .returned (.agg #[.int .u64 r, .int .u64 a, .int .u64 b, .int .i64 p, .int .i64 s, v]) ∧ OwnB w' w0.heap.size v m (u8s d) ∧ Below w0.heap.size w0 w') := Lib.hid (fun w0 h0 => by have := few_any r a b p s A0 n c0 x w0 h0; rwa [hm, hd] at this)
  clear h hs hW1 hd hm
  go_enter Try.func17, Try.ntmps17
  go_wp2_with fail
  rw [HW1.out]
  refine (HF.out _ (HS.out.on (by rw [HBZ.out]; exact HB1.out))).mono ?_
  rintro e w2 ⟨v, rfl, hov, hb2⟩
  obtain ⟨Au, cu, rfl, _⟩ := Sl.of_own hov
  have hb1s : b0 ≤ W1.heap.size := Nat.le_of_lt (Blk.lt HO1.out)
  obtain ⟨T8, hT8⟩ : ∃ T8, w2.heap.size = T8 := ⟨_, rfl⟩
  obtain ⟨w3, hw3⟩ : ∃ w3, w2.alloc (.cells #[.int .u64 r, .int .u64 a, .int .u64 b, .int .i64 p, .int .i64 s, .slice Au m cu] 33) = w3 := ⟨_, rfl⟩
  have hb3 : Below W1.heap.size W1 w3 := by rw [← hw3]; exact bel_trans hb2 (bel_alloc _ _)
  have HO3 := Lib.hid (Blk.below HO1.out hb3 (Blk.lt HO1.out))
  have HT3 : Hid (Blk w3 T8 33 #[.int .u64 r, .int .u64 a, .int .u64 b, .int .i64 p, .int .i64 s, .slice Au m cu]) := Lib.hid (by rw [← hw3, ← hT8]; exact Blk.new w2 _ _)
  have HU3 : Hid (OwnB w3 b0 (.slice Au m cu) m (u8s d)) := Lib.hid (by rw [← hw3]; exact own_mono (World.ownsRow.alloc hov _) hb1s)
  have HB3 : Hid (Below b0 wr w3) := Lib.hid (HB1.out.trans (hb3.mono hb1s))
  have HD3 := Lib.hid (HD.out.below (by rw [HBZ.out]; exact HB3.out))
  have HW3 : Hid (w2.alloc (.cells #[.int .u64 r, .int .u64 a, .int .u64 b, .int .i64 p, .int .i64 s, .slice Au m cu] 33) = w3 ∧ w2.heap.size = T8 ∧ b0 ≤ T8) := Lib.hid ⟨hw3, hT8, by rw [← hT8]; exact Nat.le_trans hb1s hb2.size⟩
  clear hov hb2 hb1s hT8 hw3 hb3
  go_upto_region 2 with fail
  rw [HW3.out.1, HW3.out.2.1]
  have o0 := HO3.out.cell 0
  have o1 := HO3.out.cell 1
  obtain ⟨hHp, ⟨F, E, A, c, hE, hR, hFP, hFB⟩, hwP, hbel⟩ := HD.out
  have hbP : b0 ≠ P := by have := hHp.lt; have := HBZ.out; omega
  have hFb : ¬ F b0 := fun hg => by have := hR.lt b0 hg; have := HBZ.out; omega
  have hTb : b0 ≤ T8 := HW3.out.2.2
  have hTP : T8 ≠ P := by have := hHp.lt; have := HBZ.out; omega
  have hFT : ¬ F T8 := fun hg => by have := hR.lt T8 hg; have := HBZ.out; omega
  have hlb := Blk.lt HO3.out
  have hlT := Blk.lt HT3.out
  have hbelw : Below wr.heap.size wr w3 → Below w.heap.size w w3 := fun k => hbel.trans (k.mono hbel.size)
  have HFL : Hid (∀ g, F g → g < b0) := Lib.hid (fun g hg => by have := hR.lt g hg; have := HBZ.out; omega)
  have HBW := Lib.hid (hbelw (by rw [HBZ.out]; exact HB3.out))
  have HH := Lib.hid (And.intro (hHp.below (by rw [HBZ.out]; exact HB3.out) hHp.lt) (And.intro (hR.below (by rw [HBZ.out]; exact HB3.out)) (And.intro hFP (And.intro hFB (And.intro hwP hbel)))))
  have o2 := HO3.out.cell 2
  have o3 := HO3.out.cell 3
  have o4 := HO3.out.cell 4
  have o5 := HO3.out.cell 5
  have o6 := HO3.out.cell 6
  have o7 := HO3.out.cell 7
  have hsm := hHp.small
  obtain ⟨y, hy⟩ : ∃ y, insR L st r a b p s d = y := ⟨_, rfl⟩
  obtain ⟨qr, xr, L', st'⟩ := y
  have HCP : Hid (∀ w0 A1 c1, Hp w0 P L st → Sl w0 w0.heap.size 1 A1 m c1 (u8s d) → Calls Try.prog 34 #[.pointer (some ⟨P, 0, none⟩), .agg #[.int .u64 r, .int .u64 a, .int .u64 b, .int .i64 p, .int .i64 s, .slice A1 m c1]] w0 fun e w' => e = .returned (.tuple #[.int .i64 qr, .int .i64 xr]) ∧ Hp w' P L' st' ∧ Only P w0 w') := Lib.hid (fun w0 A1 c1 h0 h1 => by have := insP h0 r a b p s d HDL.out h1; rwa [hy] at this)
  have HCR : Hid (∀ w0 A1 c1, RfA w0 F R E st A c → Sl w0 w0.heap.size 1 A1 m c1 (u8s d) → Calls Try.prog 64 #[.pointer (some ⟨R, 0, none⟩), .agg #[.int .u64 r, .int .u64 a, .int .u64 b, .int .i64 p, .int .i64 s, .slice A1 m c1]] w0 fun e w' => e = .returned (.tuple #[.int .i64 qr, .int .i64 xr]) ∧ (∃ E' A' c', E'.map Prod.fst = L' ∧ RfA w' (fun g => F g ∨ (w0.heap.size ≤ g ∧ g < w'.heap.size)) R E' st' A' c') ∧ Turn F w0 w') := Lib.hid (fun w0 A1 c1 h0 h1 => by have := insF h0 hE hsm.1 hsm.2.1 hsm.2.2 r a b p s d HDL.out h1; rwa [hy] at this)
  have e4 : (z % 8 == 4) = false := beq_eq_false_iff_ne.2 h4
  have e5 : (z % 8 == 5) = false := beq_eq_false_iff_ne.2 h5
  have e6 : (z % 8 == 6) = false := beq_eq_false_iff_ne.2 h6
  have e7 : (z % 8 == 7) = false := beq_eq_false_iff_ne.2 h7
  have HEND : Hid (Ends L') := Lib.hid (by have := insR_ends HEN.out st r a b p s d; rw [hy] at this; exact this)
  clear hy hHp hR hFP hFB hwP hbel hE hsm
  go_wp2_with fail
  clear o0 o1 o2 o3 o4 o5 o6 o7
  refine (HF.out _ (HS.out.on (by rw [HBZ.out]; exact HB3.out))).mono ?_
  rintro e w4 ⟨v, rfl, hov, hb4⟩
  obtain ⟨Am, cm, rfl, _⟩ := Sl.of_own hov
  obtain ⟨TM, hTM⟩ : ∃ TM, w4.heap.size = TM := ⟨_, rfl⟩
  obtain ⟨w5, hw5⟩ : ∃ w5, w4.alloc (.cells #[.int .u64 r, .int .u64 a, .int .u64 b, .int .i64 p, .int .i64 s, .slice Am m cm] 33) = w5 := ⟨_, rfl⟩
  have hb5 : Below w3.heap.size w3 w5 := by rw [← hw5]; exact bel_trans hb4 (bel_alloc _ _)
  have HM5 : Hid (Blk w5 TM 33 #[.int .u64 r, .int .u64 a, .int .u64 b, .int .i64 p, .int .i64 s, .slice Am m cm]) := Lib.hid (by rw [← hw5, ← hTM]; exact Blk.new w4 _ _)
  have HT5 := Lib.hid (Blk.below HT3.out hb5 hlT)
  have HN5 : Hid (w5.ownsRow w3.heap.size 5 1 (.slice Am m cm) m (u8s d)) := Lib.hid (by rw [← hw5]; exact World.ownsRow.alloc hov _)
  have HU5 : Hid (OwnB w5 b0 (.slice Au m cu) m (u8s d)) := Lib.hid (own_keep HU3.out (fun k hk => hb5.block k (HU3.out.lt k hk).2))
  have HUL : Hid (∀ k, (Value.slice Au m cu).ownBlock = some k → k < w3.heap.size) := Lib.hid (fun k hk => (HU3.out.lt k hk).2)
  have hP5 : Hp w5 P L st := HH.out.1.below hb5 HH.out.1.lt
  have hR5 : RfA w5 F R E st A c := HH.out.2.1.below hb5
  have hlM : TM < w5.heap.size := Blk.lt HM5.out
  have hTMb : w3.heap.size ≤ TM := by rw [← hTM]; exact hb4.size
  have hMP : TM ≠ P := by have := HH.out.1.lt; omega
  have hFM : ¬ F TM := fun hg => by have := HH.out.2.1.lt TM hg; omega
  have HW5 := Lib.hid hw5
  have hTM2 := Lib.hid hTM
  clear hov hb4 hw5 hTM
  go_upto_region 14 with fail
  rw [HW5.out, hTM2.out]
  have x0 := HM5.out.cell 0
  have x1 := HM5.out.cell 1
  have x2 := HM5.out.cell 2
  have x3 := HM5.out.cell 3
  have x4 := HM5.out.cell 4
  have x5 := HM5.out.cell 5
  go_wp2_with fail
  clear x0 x1 x2 x3 x4 x5
  refine (HCP.out _ Am cm hP5 (sl_own HN5.out)).mono ?_
  rintro e w6 ⟨rfl, hp6, ho6⟩
  have HT6 := Lib.hid (ho6.blk HT5.out hTP)
  have HM6 := Lib.hid (ho6.blk HM5.out hMP)
  have hPown : ∀ (B : Nat) (u : Value), w5.ownsRow B 5 1 u m (u8s d) → w6.ownsRow B 5 1 u m (u8s d) := fun B u hu => own_keep hu fun k hk => ho6.block k (hu.lt k hk).2 (fun e => by obtain ⟨X, hpx, _⟩ := hP5; exact own_blk_ne hu hpx.1 (by decide) (by rw [hk, e]))
  have HN6 := Lib.hid (hPown _ _ HN5.out)
  have HU6 := Lib.hid (hPown _ _ HU5.out)
  have hR6 := hR5.only ho6 HH.out.2.2.1
  have x0 := HT6.out.cell 0
  have x1 := HT6.out.cell 1
  have x2 := HT6.out.cell 2
  have x3 := HT6.out.cell 3
  have x4 := HT6.out.cell 4
  have x5 := HT6.out.cell 5
  go_wp2_with fail
  clear x0 x1 x2 x3 x4 x5
  refine (HCR.out _ Au cu hR6 (sl_own HU6.out)).mono ?_
  rintro e w7 ⟨rfl, ⟨E7, A7, c7, hE7, hr7⟩, ht7⟩
  have HT7 : Hid (Blk w7 T8 33 #[.int .u64 r, .int .u64 a, .int .u64 b, .int .i64 p, .int .i64 s, .slice Au m cu]) := Lib.hid ((ht7.block T8 (Blk.lt HT6.out) hFT).trans HT6.out)
  have HM7 : Hid (Blk w7 TM 33 #[.int .u64 r, .int .u64 a, .int .u64 b, .int .i64 p, .int .i64 s, .slice Am m cm]) := Lib.hid ((ht7.block TM (Blk.lt HM6.out) hFM).trans HM6.out)
  have hs56 : w5.heap.size ≤ w6.heap.size := ho6.size
  have hs35 : w3.heap.size ≤ w5.heap.size := hb5.size
  have hFlt : ∀ g, F g → g < b0 := by
    intro g hg
    exact HFL.out g hg
  have HN7 : Hid (w7.ownsRow w3.heap.size 5 1 (.slice Am m cm) m (u8s d)) := Lib.hid (own_keep HN6.out fun k hk => ht7.block k (HN6.out.lt k hk).2 (fun hg => by have h1 := (HN6.out.lt k hk).1; have h2 := hFlt k hg; have := HB3.out.size; have := HBZ.out; omega))
  have HU7 : Hid (w7.ownsRow b0 5 1 (.slice Au m cu) m (u8s d)) := Lib.hid (own_keep HU6.out fun k hk => ht7.block k (HU6.out.lt k hk).2 (fun hg => by have h1 := (HU6.out.lt k hk).1; have h2 := hFlt k hg; omega))
  have HD7 : Hid (Duo w w7 P R L' st') := Lib.hid (Duo.two (w3 := w5) (HBW.out.trans (hb5.mono (by have := HBW.out.size; omega))) hp6 ho6 hE7 hr7 ht7 HH.out.2.2.1 (fun hg => hg.elim HH.out.2.2.1 (fun k => by have := hp6.lt; omega)) HH.out.2.2.2.1 (fun g hg => hg.elim (HH.out.2.2.2.1 g) (fun k => by have := HBW.out.size; omega)) HH.out.2.2.2.2.1)
  have HFM7 : Hid (∀ k, (Value.slice Am m cm).ownBlock = some k → w.heap.size ≤ k ∧ k ≠ P ∧ ¬ (F k ∨ (w6.heap.size ≤ k ∧ k < w7.heap.size))) := Lib.hid (fun k hk => by
    have h1 := (HN6.out.lt k hk)
    have h2 := (HN5.out.lt k hk)
    have := HBW.out.size
    have := HH.out.1.lt
    refine ⟨by omega, by omega, fun hg => ?_⟩
    rcases hg with hg | hg
    · have := hFlt k hg; have := HB3.out.size; have := HBZ.out; omega
    · omega)
  have HR7 := Lib.hid hr7
  have HPLT : Hid (P < w6.heap.size) := Lib.hid hp6.lt
  have HSZ : Hid (w3.heap.size ≤ w6.heap.size) := Lib.hid (Nat.le_trans hs35 hs56)
  have HP7 : Hid (Hp w7 P L' st') := Lib.hid HD7.out.1
  have HE7 := Lib.hid hE7
  clear hr7 hE7 ht7 hp6 ho6 hR6 hPown hP5 hR5 hs56 hs35 hFlt
  have x0 := HM7.out.cell 0
  have x1 := HM7.out.cell 1
  have x2 := HM7.out.cell 2
  have x3 := HM7.out.cell 3
  have x4 := HM7.out.cell 4
  have x5 := HM7.out.cell 5
  have y0 := HT7.out.cell 0
  have y1 := HT7.out.cell 1
  have y2 := HT7.out.cell 2
  have y3 := HT7.out.cell 3
  have y4 := HT7.out.cell 4
  have y5 := HT7.out.cell 5
  go_wp2_with fail
  clear x0 x1 x2 x3 x4 x5 y0 y1 y2 y3 y4 y5
  refine (samet_yes r a b p s Am Au m cm m cu d w7 (sl_own HN7.out) (sl_own HU7.out)).mono ?_
  rintro e w8 ⟨rfl, hb8⟩
  have HM8 := Lib.hid (Blk.below HM7.out hb8 (Blk.lt HM7.out))
  have HN8 : Hid (w8.ownsRow w3.heap.size 5 1 (.slice Am m cm) m (u8s d)) := Lib.hid (own_keep HN7.out fun k hk => hb8.block k (HN7.out.lt k hk).2)
  have HR8 := Lib.hid (HR7.out.below hb8)
  have HP8 := Lib.hid (HP7.out.below hb8 HP7.out.lt)
  have HB8 : Hid (Below w.heap.size w w8) := Lib.hid (HD7.out.2.2.2.trans (hb8.mono HD7.out.2.2.2.size))
  have HFIN : Hid (∀ (wl : World) (g : Nat), (Value.slice Am m cm).ownBlock = some g → Only g w8 wl → Duo w wl P R L' st') := Lib.hid (fun wl g hg ho => by
    obtain ⟨q1, q2, q3⟩ := HFM7.out g hg
    exact ⟨HP8.out.only ho (Ne.symm q2), ⟨_, E7, A7, c7, HE7.out, HR8.out.only ho q3, (fun hh => hh.elim HH.out.2.2.1 (fun k => by have := HPLT.out; omega)), (fun k hk => hk.elim (HH.out.2.2.2.1 k) (fun k => by have := HBW.out.size; have := HSZ.out; omega))⟩, HH.out.2.2.2.2.1, HB8.out.trans (ho.below HB8.out.size q1)⟩)
  have HFIN0 : Hid (Duo w w8 P R L' st') := Lib.hid (HD7.out.below hb8)
  clear hb8
  have x5 := HM8.out.cell 5
  go_wp2_with fail
  obtain ⟨G, hG⟩ : ∃ G, 0 < m → (Am = some ⟨G, 0, none⟩ ∧ m ≤ cm ∧ (Value.slice Am m cm).ownBlock = some G ∧ ∃ cur, Blk w8 G 5 cur ∧ ∀ j y, j < m → (u8s d)[j]? = some y → cur[j]? = some y) := by
    rcases HN8.out.2 with ⟨hv, hm0⟩ | ⟨g, cap, cur, hv, hbg, hg, hnc, hcm, hcs, htake⟩
    · exact ⟨0, fun h => absurd h (by omega)⟩
    · refine ⟨g, fun h => ?_⟩
      injection hv with q1 _ q3
      subst q1 q3
      refine ⟨rfl, hnc, rfl, cur, hg, fun j y hj hy => ?_⟩
      rw [← htake, List.getElem?_take, if_pos (by omega), Array.getElem?_toList] at hy
      exact hy
  have HG := Lib.hid hG
  clear hG x5
  go_loopw [106] (fun i wl => ∃ k : Nat, k ≤ m ∧ i = .int .i64 k ∧ Only G w8 wl ∧ (m = 0 → wl = w8) ∧ (0 < m → ∃ cur, Blk wl G 5 cur ∧ ∀ j y, k ≤ j → j < m → (u8s d)[j]? = some y → cur[j]? = some y)) (fun i _ => m - (intOf i).toNat)
  case atStart => exact ⟨0, by omega, rfl, Only.refl _ _, fun _ => rfl, fun h => by obtain ⟨_, _, _, cur, h1, h2⟩ := HG.out h; exact ⟨cur, h1, fun j y _ hj hy => h2 j y hj hy⟩⟩
  case round =>
    obtain ⟨k, hk, rfl, ho, hz0, hcur⟩ := hrel
    have HO := Lib.hid ho
    have HZ0 := Lib.hid hz0
    have HCUR := Lib.hid hcur
    clear ho hz0 hcur
    by_cases hlt : k < m
    · have hlt' : (k : Int) < m := by omega
      have hm0 : 0 < m := by omega
      obtain ⟨hA, hmc, hown, _, hb0G, _⟩ := HG.out hm0
      obtain ⟨cur, hbl, hcells⟩ := HCUR.out hm0
      obtain ⟨y, hy⟩ : ∃ y, d[k]? = some y := ⟨_, List.getElem?_eq_getElem (by rw [HDL.out]; exact hlt)⟩
      have hck := hcells k _ (Nat.le_refl _) hlt (u8s_get hy)
      have y0 := hbl.cell k
      rw [hck] at y0
      have z0 := hbl.frozen k
      have hne := Blk.ne_ HM8.out hb0G (by decide)
      have HML := Lib.hid (HO.out.blk HM8.out hne)
      have x5 := HML.out.cell 5
      have hk0 : (0 : Int) ≤ k := by omega
      have HS2 : Hid (∀ v, Blk (wr.setCell ⟨G, k, none⟩ v) G 5 (cur.setIfInBounds k v)) := Lib.hid (fun v => Blk.set_ hbl k v)
      have HCC := Lib.hid hcells
      subst hA
      clear hck hy hbl hcells
      go_wp2_with fail
      go_roundw
      case rel =>
        refine ⟨k + 1, by omega, by go_num, HO.out.set_ _ _, fun h => absurd h (by omega), fun _ => ⟨_, HS2.out _, fun j y hj hjm hy => ?_⟩⟩
        rw [Array.getElem?_setIfInBounds, if_neg (by omega)]
        exact HCC.out j y (by omega) hjm hy
      case measure => simp [intOf]; omega
    · obtain rfl : k = m := by omega
      go_wp2_with fail
      go_ret2
      refine ⟨rfl, L', st', ?_, HEND.out⟩
      by_cases hm0 : k = 0
      · rw [HZ0.out hm0]; exact HFIN0.out
      · obtain ⟨_, _, hown, _⟩ := HG.out (by omega)
        exact HFIN.out _ G hown HO.out
theorem do_stampE (h : Duo w wr P R L st) (hEnd : Ends L) (z i : Int) (r a b : Nat) (p s : Int) (x : List UInt8) (hx : x.length = n) (hs : Sl wr wr.heap.size 1 A0 n c0 (u8s x)) (hr : r < 18446744073709551616) (ha : a < 18446744073709551616) (hb : b < 18446744073709551616) (hz : 0 ≤ z ∧ z ≤ 255) (h4 : Int.tmod z 8 = 4) :
    Calls Try.prog 17 #[.pointer (some ⟨P, 0, none⟩), .pointer (some ⟨R, 0, none⟩), .agg #[.int .u8 z, .int .i64 i, .int .u64 r, .int .u64 a, .int .u64 b, .int .i64 p, .int .i64 s, .slice A0 n c0]] wr fun e w' => e = .returned (.tuple #[.pointer (some ⟨P, 0, none⟩), .bool true]) ∧ ∃ L' st', Duo w w' P R L' st' ∧ Ends L' := by
  have HEN := Lib.hid hEnd
  clear hEnd
  have HD := Lib.hid h
  have HS := Lib.hid hs
  obtain ⟨b0, hb0⟩ : ∃ b0, wr.heap.size = b0 := ⟨_, rfl⟩
  obtain ⟨W1, hW1⟩ : ∃ W1, wr.alloc (.cells #[.int .u8 z, .int .i64 i, .int .u64 r, .int .u64 a, .int .u64 b, .int .i64 p, .int .i64 s, .slice A0 n c0] 35) = W1 := ⟨_, rfl⟩
  have HO1 : Hid (Blk W1 b0 35 #[.int .u8 z, .int .i64 i, .int .u64 r, .int .u64 a, .int .u64 b, .int .i64 p, .int .i64 s, .slice A0 n c0]) := Lib.hid (by rw [← hW1, ← hb0]; exact Blk.new wr _ _)
  have HB1 : Hid (Below b0 wr W1) := Lib.hid (by rw [← hW1, ← hb0]; exact bel_alloc _ _)
  have HW1 := Lib.hid hW1
  have HBZ := Lib.hid hb0
  obtain ⟨d, hd⟩ : ∃ d, x.take 230 = d := ⟨_, rfl⟩
  obtain ⟨m, hm⟩ : ∃ m, min n 230 = m := ⟨_, rfl⟩
  have HDL : Hid (d.length = m) := Lib.hid (by rw [← hd, ← hm, List.length_take, hx]; omega)
  have hm230 : m ≤ 230 := by omega
  have HF : Hid (∀ w0, Sl w0 w0.heap.size 1 A0 n c0 (u8s x) → Calls Try.prog 37 #[.agg #[.int .u64 r, .int .u64 a, .int .u64 b, .int .i64 p, .int .i64 s, .slice A0 n c0]] w0 fun e w' => ∃ v, e = .returned (.agg #[.int .u64 r, .int .u64 a, .int .u64 b, .int .i64 p, .int .i64 s, v]) ∧ OwnB w' w0.heap.size v m (u8s d) ∧ Below w0.heap.size w0 w') := Lib.hid (fun w0 h0 => by have := few_any r a b p s A0 n c0 x w0 h0; rwa [hm, hd] at this)
  clear h hs hW1 hd hm
  go_enter Try.func17, Try.ntmps17
  go_wp2_with fail
  rw [HW1.out]
  refine (HF.out _ (HS.out.on (by rw [HBZ.out]; exact HB1.out))).mono ?_
  rintro e w2 ⟨v, rfl, hov, hb2⟩
  obtain ⟨Au, cu, rfl, _⟩ := Sl.of_own hov
  have hb1s : b0 ≤ W1.heap.size := Nat.le_of_lt (Blk.lt HO1.out)
  obtain ⟨T8, hT8⟩ : ∃ T8, w2.heap.size = T8 := ⟨_, rfl⟩
  obtain ⟨w3, hw3⟩ : ∃ w3, w2.alloc (.cells #[.int .u64 r, .int .u64 a, .int .u64 b, .int .i64 p, .int .i64 s, .slice Au m cu] 33) = w3 := ⟨_, rfl⟩
  have hb3 : Below W1.heap.size W1 w3 := by rw [← hw3]; exact bel_trans hb2 (bel_alloc _ _)
  have HO3 := Lib.hid (Blk.below HO1.out hb3 (Blk.lt HO1.out))
  have HT3 : Hid (Blk w3 T8 33 #[.int .u64 r, .int .u64 a, .int .u64 b, .int .i64 p, .int .i64 s, .slice Au m cu]) := Lib.hid (by rw [← hw3, ← hT8]; exact Blk.new w2 _ _)
  have HU3 : Hid (OwnB w3 b0 (.slice Au m cu) m (u8s d)) := Lib.hid (by rw [← hw3]; exact own_mono (World.ownsRow.alloc hov _) hb1s)
  have HB3 : Hid (Below b0 wr w3) := Lib.hid (HB1.out.trans (hb3.mono hb1s))
  have HD3 := Lib.hid (HD.out.below (by rw [HBZ.out]; exact HB3.out))
  have HW3 : Hid (w2.alloc (.cells #[.int .u64 r, .int .u64 a, .int .u64 b, .int .i64 p, .int .i64 s, .slice Au m cu] 33) = w3 ∧ w2.heap.size = T8 ∧ b0 ≤ T8) := Lib.hid ⟨hw3, hT8, by rw [← hT8]; exact Nat.le_trans hb1s hb2.size⟩
  clear hov hb2 hb1s hT8 hw3 hb3
  go_upto_region 2 with fail
  rw [HW3.out.1, HW3.out.2.1]
  have o0 := HO3.out.cell 0
  have o1 := HO3.out.cell 1
  obtain ⟨hHp, ⟨F, E, A, c, hE, hR, hFP, hFB⟩, hwP, hbel⟩ := HD.out
  have hbP : b0 ≠ P := by have := hHp.lt; have := HBZ.out; omega
  have hFb : ¬ F b0 := fun hg => by have := hR.lt b0 hg; have := HBZ.out; omega
  have hTb : b0 ≤ T8 := HW3.out.2.2
  have hTP : T8 ≠ P := by have := hHp.lt; have := HBZ.out; omega
  have hFT : ¬ F T8 := fun hg => by have := hR.lt T8 hg; have := HBZ.out; omega
  have hlb := Blk.lt HO3.out
  have hlT := Blk.lt HT3.out
  have hbelw : Below wr.heap.size wr w3 → Below w.heap.size w w3 := fun k => hbel.trans (k.mono hbel.size)
  have HFL : Hid (∀ g, F g → g < b0) := Lib.hid (fun g hg => by have := hR.lt g hg; have := HBZ.out; omega)
  have HBW := Lib.hid (hbelw (by rw [HBZ.out]; exact HB3.out))
  have HH := Lib.hid (And.intro (hHp.below (by rw [HBZ.out]; exact HB3.out) hHp.lt) (And.intro (hR.below (by rw [HBZ.out]; exact HB3.out)) (And.intro hFP (And.intro hFB (And.intro hwP hbel)))))
  obtain ⟨y, hy⟩ : ∃ y, stampR L i b p s = y := ⟨_, rfl⟩
  obtain ⟨xr, L'⟩ := y
  have HCP : Hid (∀ w0, Hp w0 P L st → Calls Try.prog 38 #[.pointer (some ⟨P, 0, none⟩), .int .i64 i, .int .u64 b, .agg #[.int .i64 p, .int .i64 s]] w0 fun e w' => e = .returned (.int .i64 xr) ∧ Hp w' P L' st ∧ Only P w0 w') := Lib.hid (fun w0 h0 => by have := stampP h0 i b p s; rwa [hy] at this)
  have HCR : Hid (∀ w0, RfA w0 F R E st A c → Calls Try.prog 62 #[.pointer (some ⟨R, 0, none⟩), .int .i64 i, .int .u64 b, .agg #[.int .i64 p, .int .i64 s]] w0 fun e w' => e = .returned (.int .i64 xr) ∧ (∃ E', E'.map Prod.fst = L' ∧ RfA w' F R E' st A c) ∧ Turn F w0 w') := Lib.hid (fun w0 h0 => by have := stampF h0 hE i b p s; rwa [hy] at this)
  have HEND : Hid (Ends L') := Lib.hid (by have := stampR_ends HEN.out i b p s; rw [hy] at this; exact this)
  clear hy hHp hR hFP hFB hwP hbel hE
  go_wp2_with fail
  have t2 := HT3.out.cell 2
  have t3 := HT3.out.cell 3
  have t4 := HT3.out.cell 4
  go_region_held3 (fun w' => w'.cell? ⟨b0, 1, none⟩ = some (.int .i64 i) ∧ w'.cell? ⟨T8, 2, none⟩ = some (.int .u64 b) ∧ w'.cell? ⟨T8, 3, none⟩ = some (.int .i64 p) ∧ w'.cell? ⟨T8, 4, none⟩ = some (.int .i64 s)) (first | go_keep | exact ⟨ho4.cell (p := ⟨b0, 1, none⟩) hlb hbP (HO3.out.cell 1), ho4.cell (p := ⟨T8, 2, none⟩) hlT hTP (HT3.out.cell 2), ho4.cell (p := ⟨T8, 3, none⟩) hlT hTP (HT3.out.cell 3), ho4.cell (p := ⟨T8, 4, none⟩) hlT hTP (HT3.out.cell 4)⟩ | exact ⟨ht5.cell (p := ⟨b0, 1, none⟩) (Nat.lt_of_lt_of_le hlb ho4.size) hFb (ho4.cell (p := ⟨b0, 1, none⟩) hlb hbP (HO3.out.cell 1)), ht5.cell (p := ⟨T8, 2, none⟩) (Nat.lt_of_lt_of_le hlT ho4.size) hFT (ho4.cell (p := ⟨T8, 2, none⟩) hlT hTP (HT3.out.cell 2)), ht5.cell (p := ⟨T8, 3, none⟩) (Nat.lt_of_lt_of_le hlT ho4.size) hFT (ho4.cell (p := ⟨T8, 3, none⟩) hlT hTP (HT3.out.cell 3)), ht5.cell (p := ⟨T8, 4, none⟩) (Nat.lt_of_lt_of_le hlT ho4.size) hFT (ho4.cell (p := ⟨T8, 4, none⟩) hlT hTP (HT3.out.cell 4))⟩)
    (first
      | (go_at_call 38; refine (HCP.out _ HH.out.1.drew).mono ?_; rintro e w4 ⟨rfl, hp4, ho4⟩)
      | (go_at_call 62; refine (HCR.out _ ((HH.out.2.1).drew.only ho4 HH.out.2.2.1)).mono ?_; rintro e w5 ⟨rfl, ⟨E5, hE5, hr5⟩, ht5⟩))
  go_wp2_with fail
  go_ret2
  exact ⟨rfl, L', st, Duo.two (hbelw (by rw [HBZ.out]; exact HB3.out)) hp4 ((Only.refl P w3).drew.trans ho4) hE5 hr5 ht5 HH.out.2.2.1 HH.out.2.2.1 HH.out.2.2.2.1 HH.out.2.2.2.1 HH.out.2.2.2.2.1, HEND.out⟩
theorem do_free5E (h : Duo w wr P R L st) (hEnd : Ends L) (z i : Int) (r a b : Nat) (p s : Int) (x : List UInt8) (hx : x.length = n) (hs : Sl wr wr.heap.size 1 A0 n c0 (u8s x)) (hr : r < 18446744073709551616) (ha : a < 18446744073709551616) (hb : b < 18446744073709551616) (hz : 0 ≤ z ∧ z ≤ 255) (h4 : Int.tmod z 8 = 5) :
    Calls Try.prog 17 #[.pointer (some ⟨P, 0, none⟩), .pointer (some ⟨R, 0, none⟩), .agg #[.int .u8 z, .int .i64 i, .int .u64 r, .int .u64 a, .int .u64 b, .int .i64 p, .int .i64 s, .slice A0 n c0]] wr fun e w' => e = .returned (.tuple #[.pointer (some ⟨P, 0, none⟩), .bool true]) ∧ ∃ L' st', Duo w w' P R L' st' ∧ Ends L' := by
  have HEN := Lib.hid hEnd
  clear hEnd
  have HD := Lib.hid h
  have HS := Lib.hid hs
  obtain ⟨b0, hb0⟩ : ∃ b0, wr.heap.size = b0 := ⟨_, rfl⟩
  obtain ⟨W1, hW1⟩ : ∃ W1, wr.alloc (.cells #[.int .u8 z, .int .i64 i, .int .u64 r, .int .u64 a, .int .u64 b, .int .i64 p, .int .i64 s, .slice A0 n c0] 35) = W1 := ⟨_, rfl⟩
  have HO1 : Hid (Blk W1 b0 35 #[.int .u8 z, .int .i64 i, .int .u64 r, .int .u64 a, .int .u64 b, .int .i64 p, .int .i64 s, .slice A0 n c0]) := Lib.hid (by rw [← hW1, ← hb0]; exact Blk.new wr _ _)
  have HB1 : Hid (Below b0 wr W1) := Lib.hid (by rw [← hW1, ← hb0]; exact bel_alloc _ _)
  have HW1 := Lib.hid hW1
  have HBZ := Lib.hid hb0
  obtain ⟨d, hd⟩ : ∃ d, x.take 230 = d := ⟨_, rfl⟩
  obtain ⟨m, hm⟩ : ∃ m, min n 230 = m := ⟨_, rfl⟩
  have HDL : Hid (d.length = m) := Lib.hid (by rw [← hd, ← hm, List.length_take, hx]; omega)
  have hm230 : m ≤ 230 := by omega
  have HF : Hid (∀ w0, Sl w0 w0.heap.size 1 A0 n c0 (u8s x) → Calls Try.prog 37 #[.agg #[.int .u64 r, .int .u64 a, .int .u64 b, .int .i64 p, .int .i64 s, .slice A0 n c0]] w0 fun e w' => ∃ v, e = .returned (.agg #[.int .u64 r, .int .u64 a, .int .u64 b, .int .i64 p, .int .i64 s, v]) ∧ OwnB w' w0.heap.size v m (u8s d) ∧ Below w0.heap.size w0 w') := Lib.hid (fun w0 h0 => by have := few_any r a b p s A0 n c0 x w0 h0; rwa [hm, hd] at this)
  clear h hs hW1 hd hm
  go_enter Try.func17, Try.ntmps17
  go_wp2_with fail
  rw [HW1.out]
  refine (HF.out _ (HS.out.on (by rw [HBZ.out]; exact HB1.out))).mono ?_
  rintro e w2 ⟨v, rfl, hov, hb2⟩
  obtain ⟨Au, cu, rfl, _⟩ := Sl.of_own hov
  have hb1s : b0 ≤ W1.heap.size := Nat.le_of_lt (Blk.lt HO1.out)
  obtain ⟨T8, hT8⟩ : ∃ T8, w2.heap.size = T8 := ⟨_, rfl⟩
  obtain ⟨w3, hw3⟩ : ∃ w3, w2.alloc (.cells #[.int .u64 r, .int .u64 a, .int .u64 b, .int .i64 p, .int .i64 s, .slice Au m cu] 33) = w3 := ⟨_, rfl⟩
  have hb3 : Below W1.heap.size W1 w3 := by rw [← hw3]; exact bel_trans hb2 (bel_alloc _ _)
  have HO3 := Lib.hid (Blk.below HO1.out hb3 (Blk.lt HO1.out))
  have HT3 : Hid (Blk w3 T8 33 #[.int .u64 r, .int .u64 a, .int .u64 b, .int .i64 p, .int .i64 s, .slice Au m cu]) := Lib.hid (by rw [← hw3, ← hT8]; exact Blk.new w2 _ _)
  have HU3 : Hid (OwnB w3 b0 (.slice Au m cu) m (u8s d)) := Lib.hid (by rw [← hw3]; exact own_mono (World.ownsRow.alloc hov _) hb1s)
  have HB3 : Hid (Below b0 wr w3) := Lib.hid (HB1.out.trans (hb3.mono hb1s))
  have HD3 := Lib.hid (HD.out.below (by rw [HBZ.out]; exact HB3.out))
  have HW3 : Hid (w2.alloc (.cells #[.int .u64 r, .int .u64 a, .int .u64 b, .int .i64 p, .int .i64 s, .slice Au m cu] 33) = w3 ∧ w2.heap.size = T8 ∧ b0 ≤ T8) := Lib.hid ⟨hw3, hT8, by rw [← hT8]; exact Nat.le_trans hb1s hb2.size⟩
  clear hov hb2 hb1s hT8 hw3 hb3
  go_upto_region 2 with fail
  rw [HW3.out.1, HW3.out.2.1]
  have o0 := HO3.out.cell 0
  have o1 := HO3.out.cell 1
  obtain ⟨hHp, ⟨F, E, A, c, hE, hR, hFP, hFB⟩, hwP, hbel⟩ := HD.out
  have hbP : b0 ≠ P := by have := hHp.lt; have := HBZ.out; omega
  have hFb : ¬ F b0 := fun hg => by have := hR.lt b0 hg; have := HBZ.out; omega
  have hTb : b0 ≤ T8 := HW3.out.2.2
  have hTP : T8 ≠ P := by have := hHp.lt; have := HBZ.out; omega
  have hFT : ¬ F T8 := fun hg => by have := hR.lt T8 hg; have := HBZ.out; omega
  have hlb := Blk.lt HO3.out
  have hlT := Blk.lt HT3.out
  have hbelw : Below wr.heap.size wr w3 → Below w.heap.size w w3 := fun k => hbel.trans (k.mono hbel.size)
  have HFL : Hid (∀ g, F g → g < b0) := Lib.hid (fun g hg => by have := hR.lt g hg; have := HBZ.out; omega)
  have HBW := Lib.hid (hbelw (by rw [HBZ.out]; exact HB3.out))
  have HH := Lib.hid (And.intro (hHp.below (by rw [HBZ.out]; exact HB3.out) hHp.lt) (And.intro (hR.below (by rw [HBZ.out]; exact HB3.out)) (And.intro hFP (And.intro hFB (And.intro hwP hbel)))))
  obtain ⟨xr, L', hft⟩ := free_ex L i
  have HCP : Hid (∀ w0, Hp w0 P L st → Calls Try.prog 35 #[.pointer (some ⟨P, 0, none⟩), .int .i64 i] w0 fun e w' => e = .returned (.int .i64 xr) ∧ Hp w' P L' st ∧ Only P w0 w') := Lib.hid (fun w0 h0 => freeP h0 i xr L' hft)
  have HCR : Hid (∀ w0, RfA w0 F R E st A c → Calls Try.prog 63 #[.pointer (some ⟨R, 0, none⟩), .int .i64 i] w0 fun e w' => e = .returned (.int .i64 xr) ∧ (∃ E', E'.map Prod.fst = L' ∧ RfA w' F R E' st A c) ∧ Turn F w0 w') := Lib.hid (fun w0 h0 => freeF h0 hE i xr L' hft)
  have HEND : Hid (Ends L') := Lib.hid (freeTo_ends hft HEN.out)
  clear hft hHp hR hFP hFB hwP hbel hE
  go_wp2_with fail
  go_region_held3 (fun w' => w'.cell? ⟨b0, 1, none⟩ = some (.int .i64 i)) (first | go_keep | exact ho4.cell (p := ⟨b0, 1, none⟩) hlb hbP (HO3.out.cell 1) | exact ht5.cell (p := ⟨b0, 1, none⟩) (Nat.lt_of_lt_of_le hlb ho4.size) hFb (ho4.cell (p := ⟨b0, 1, none⟩) hlb hbP (HO3.out.cell 1)))
    (first
      | (go_at_call 35; refine (HCP.out _ HH.out.1.drew).mono ?_; rintro e w4 ⟨rfl, hp4, ho4⟩)
      | (go_at_call 63; refine (HCR.out _ ((HH.out.2.1).drew.only ho4 HH.out.2.2.1)).mono ?_; rintro e w5 ⟨rfl, ⟨E5, hE5, hr5⟩, ht5⟩))
  go_wp2_with fail
  go_ret2
  exact ⟨rfl, L', st, Duo.two (hbelw (by rw [HBZ.out]; exact HB3.out)) hp4 ((Only.refl P w3).drew.trans ho4) hE5 hr5 ht5 HH.out.2.2.1 HH.out.2.2.1 HH.out.2.2.2.1 HH.out.2.2.2.1 HH.out.2.2.2.2.1, HEND.out⟩
theorem do_free6E (h : Duo w wr P R L st) (hEnd : Ends L) (z i : Int) (r a b : Nat) (p s : Int) (x : List UInt8) (hx : x.length = n) (hs : Sl wr wr.heap.size 1 A0 n c0 (u8s x)) (hr : r < 18446744073709551616) (ha : a < 18446744073709551616) (hb : b < 18446744073709551616) (hz : 0 ≤ z ∧ z ≤ 255) (h4 : Int.tmod z 8 = 6) :
    Calls Try.prog 17 #[.pointer (some ⟨P, 0, none⟩), .pointer (some ⟨R, 0, none⟩), .agg #[.int .u8 z, .int .i64 i, .int .u64 r, .int .u64 a, .int .u64 b, .int .i64 p, .int .i64 s, .slice A0 n c0]] wr fun e w' => e = .returned (.tuple #[.pointer (some ⟨P, 0, none⟩), .bool true]) ∧ ∃ L' st', Duo w w' P R L' st' ∧ Ends L' := by
  have HEN := Lib.hid hEnd
  clear hEnd
  have HD := Lib.hid h
  have HS := Lib.hid hs
  obtain ⟨b0, hb0⟩ : ∃ b0, wr.heap.size = b0 := ⟨_, rfl⟩
  obtain ⟨W1, hW1⟩ : ∃ W1, wr.alloc (.cells #[.int .u8 z, .int .i64 i, .int .u64 r, .int .u64 a, .int .u64 b, .int .i64 p, .int .i64 s, .slice A0 n c0] 35) = W1 := ⟨_, rfl⟩
  have HO1 : Hid (Blk W1 b0 35 #[.int .u8 z, .int .i64 i, .int .u64 r, .int .u64 a, .int .u64 b, .int .i64 p, .int .i64 s, .slice A0 n c0]) := Lib.hid (by rw [← hW1, ← hb0]; exact Blk.new wr _ _)
  have HB1 : Hid (Below b0 wr W1) := Lib.hid (by rw [← hW1, ← hb0]; exact bel_alloc _ _)
  have HW1 := Lib.hid hW1
  have HBZ := Lib.hid hb0
  obtain ⟨d, hd⟩ : ∃ d, x.take 230 = d := ⟨_, rfl⟩
  obtain ⟨m, hm⟩ : ∃ m, min n 230 = m := ⟨_, rfl⟩
  have HDL : Hid (d.length = m) := Lib.hid (by rw [← hd, ← hm, List.length_take, hx]; omega)
  have hm230 : m ≤ 230 := by omega
  have HF : Hid (∀ w0, Sl w0 w0.heap.size 1 A0 n c0 (u8s x) → Calls Try.prog 37 #[.agg #[.int .u64 r, .int .u64 a, .int .u64 b, .int .i64 p, .int .i64 s, .slice A0 n c0]] w0 fun e w' => ∃ v, e = .returned (.agg #[.int .u64 r, .int .u64 a, .int .u64 b, .int .i64 p, .int .i64 s, v]) ∧ OwnB w' w0.heap.size v m (u8s d) ∧ Below w0.heap.size w0 w') := Lib.hid (fun w0 h0 => by have := few_any r a b p s A0 n c0 x w0 h0; rwa [hm, hd] at this)
  clear h hs hW1 hd hm
  go_enter Try.func17, Try.ntmps17
  go_wp2_with fail
  rw [HW1.out]
  refine (HF.out _ (HS.out.on (by rw [HBZ.out]; exact HB1.out))).mono ?_
  rintro e w2 ⟨v, rfl, hov, hb2⟩
  obtain ⟨Au, cu, rfl, _⟩ := Sl.of_own hov
  have hb1s : b0 ≤ W1.heap.size := Nat.le_of_lt (Blk.lt HO1.out)
  obtain ⟨T8, hT8⟩ : ∃ T8, w2.heap.size = T8 := ⟨_, rfl⟩
  obtain ⟨w3, hw3⟩ : ∃ w3, w2.alloc (.cells #[.int .u64 r, .int .u64 a, .int .u64 b, .int .i64 p, .int .i64 s, .slice Au m cu] 33) = w3 := ⟨_, rfl⟩
  have hb3 : Below W1.heap.size W1 w3 := by rw [← hw3]; exact bel_trans hb2 (bel_alloc _ _)
  have HO3 := Lib.hid (Blk.below HO1.out hb3 (Blk.lt HO1.out))
  have HT3 : Hid (Blk w3 T8 33 #[.int .u64 r, .int .u64 a, .int .u64 b, .int .i64 p, .int .i64 s, .slice Au m cu]) := Lib.hid (by rw [← hw3, ← hT8]; exact Blk.new w2 _ _)
  have HU3 : Hid (OwnB w3 b0 (.slice Au m cu) m (u8s d)) := Lib.hid (by rw [← hw3]; exact own_mono (World.ownsRow.alloc hov _) hb1s)
  have HB3 : Hid (Below b0 wr w3) := Lib.hid (HB1.out.trans (hb3.mono hb1s))
  have HD3 := Lib.hid (HD.out.below (by rw [HBZ.out]; exact HB3.out))
  have HW3 : Hid (w2.alloc (.cells #[.int .u64 r, .int .u64 a, .int .u64 b, .int .i64 p, .int .i64 s, .slice Au m cu] 33) = w3 ∧ w2.heap.size = T8 ∧ b0 ≤ T8) := Lib.hid ⟨hw3, hT8, by rw [← hT8]; exact Nat.le_trans hb1s hb2.size⟩
  clear hov hb2 hb1s hT8 hw3 hb3
  go_upto_region 2 with fail
  rw [HW3.out.1, HW3.out.2.1]
  have o0 := HO3.out.cell 0
  have o1 := HO3.out.cell 1
  obtain ⟨hHp, ⟨F, E, A, c, hE, hR, hFP, hFB⟩, hwP, hbel⟩ := HD.out
  have hbP : b0 ≠ P := by have := hHp.lt; have := HBZ.out; omega
  have hFb : ¬ F b0 := fun hg => by have := hR.lt b0 hg; have := HBZ.out; omega
  have hTb : b0 ≤ T8 := HW3.out.2.2
  have hTP : T8 ≠ P := by have := hHp.lt; have := HBZ.out; omega
  have hFT : ¬ F T8 := fun hg => by have := hR.lt T8 hg; have := HBZ.out; omega
  have hlb := Blk.lt HO3.out
  have hlT := Blk.lt HT3.out
  have hbelw : Below wr.heap.size wr w3 → Below w.heap.size w w3 := fun k => hbel.trans (k.mono hbel.size)
  have HFL : Hid (∀ g, F g → g < b0) := Lib.hid (fun g hg => by have := hR.lt g hg; have := HBZ.out; omega)
  have HBW := Lib.hid (hbelw (by rw [HBZ.out]; exact HB3.out))
  have HH := Lib.hid (And.intro (hHp.below (by rw [HBZ.out]; exact HB3.out) hHp.lt) (And.intro (hR.below (by rw [HBZ.out]; exact HB3.out)) (And.intro hFP (And.intro hFB (And.intro hwP hbel)))))
  obtain ⟨xr, L', hft⟩ := free_ex L i
  have HCP : Hid (∀ w0, Hp w0 P L st → Calls Try.prog 35 #[.pointer (some ⟨P, 0, none⟩), .int .i64 i] w0 fun e w' => e = .returned (.int .i64 xr) ∧ Hp w' P L' st ∧ Only P w0 w') := Lib.hid (fun w0 h0 => freeP h0 i xr L' hft)
  have HCR : Hid (∀ w0, RfA w0 F R E st A c → Calls Try.prog 63 #[.pointer (some ⟨R, 0, none⟩), .int .i64 i] w0 fun e w' => e = .returned (.int .i64 xr) ∧ (∃ E', E'.map Prod.fst = L' ∧ RfA w' F R E' st A c) ∧ Turn F w0 w') := Lib.hid (fun w0 h0 => freeF h0 hE i xr L' hft)
  have HEND : Hid (Ends L') := Lib.hid (freeTo_ends hft HEN.out)
  clear hft hHp hR hFP hFB hwP hbel hE
  go_wp2_with fail
  go_region_held3 (fun w' => w'.cell? ⟨b0, 1, none⟩ = some (.int .i64 i)) (first | go_keep | exact ho4.cell (p := ⟨b0, 1, none⟩) hlb hbP (HO3.out.cell 1) | exact ht5.cell (p := ⟨b0, 1, none⟩) (Nat.lt_of_lt_of_le hlb ho4.size) hFb (ho4.cell (p := ⟨b0, 1, none⟩) hlb hbP (HO3.out.cell 1)))
    (first
      | (go_at_call 35; refine (HCP.out _ HH.out.1.drew).mono ?_; rintro e w4 ⟨rfl, hp4, ho4⟩)
      | (go_at_call 63; refine (HCR.out _ ((HH.out.2.1).drew.only ho4 HH.out.2.2.1)).mono ?_; rintro e w5 ⟨rfl, ⟨E5, hE5, hr5⟩, ht5⟩))
  go_wp2_with fail
  go_ret2
  exact ⟨rfl, L', st, Duo.two (hbelw (by rw [HBZ.out]; exact HB3.out)) hp4 ((Only.refl P w3).drew.trans ho4) hE5 hr5 ht5 HH.out.2.2.1 HH.out.2.2.1 HH.out.2.2.2.1 HH.out.2.2.2.1 HH.out.2.2.2.2.1, HEND.out⟩
theorem do_sevenE (h : Duo w wr P R L st) (hEnd : Ends L) (z i : Int) (r a b : Nat) (p s : Int) (x : List UInt8) (hx : x.length = n) (hs : Sl wr wr.heap.size 1 A0 n c0 (u8s x)) (hr : r < 18446744073709551616) (ha : a < 18446744073709551616) (hb : b < 18446744073709551616) (hz : 0 ≤ z ∧ z ≤ 255) (h4 : Int.tmod z 8 = 7) :
    Calls Try.prog 17 #[.pointer (some ⟨P, 0, none⟩), .pointer (some ⟨R, 0, none⟩), .agg #[.int .u8 z, .int .i64 i, .int .u64 r, .int .u64 a, .int .u64 b, .int .i64 p, .int .i64 s, .slice A0 n c0]] wr fun e w' => ∃ Q, e = .returned (.tuple #[.pointer (some ⟨Q, 0, none⟩), .bool true]) ∧ Duo w w' Q R L st := by
  have HEN := Lib.hid hEnd
  clear hEnd
  have HD := Lib.hid h
  have HS := Lib.hid hs
  obtain ⟨b0, hb0⟩ : ∃ b0, wr.heap.size = b0 := ⟨_, rfl⟩
  obtain ⟨W1, hW1⟩ : ∃ W1, wr.alloc (.cells #[.int .u8 z, .int .i64 i, .int .u64 r, .int .u64 a, .int .u64 b, .int .i64 p, .int .i64 s, .slice A0 n c0] 35) = W1 := ⟨_, rfl⟩
  have HO1 : Hid (Blk W1 b0 35 #[.int .u8 z, .int .i64 i, .int .u64 r, .int .u64 a, .int .u64 b, .int .i64 p, .int .i64 s, .slice A0 n c0]) := Lib.hid (by rw [← hW1, ← hb0]; exact Blk.new wr _ _)
  have HB1 : Hid (Below b0 wr W1) := Lib.hid (by rw [← hW1, ← hb0]; exact bel_alloc _ _)
  have HW1 := Lib.hid hW1
  have HBZ := Lib.hid hb0
  obtain ⟨d, hd⟩ : ∃ d, x.take 230 = d := ⟨_, rfl⟩
  obtain ⟨m, hm⟩ : ∃ m, min n 230 = m := ⟨_, rfl⟩
  have HDL : Hid (d.length = m) := Lib.hid (by rw [← hd, ← hm, List.length_take, hx]; omega)
  have hm230 : m ≤ 230 := by omega
  have HF : Hid (∀ w0, Sl w0 w0.heap.size 1 A0 n c0 (u8s x) → Calls Try.prog 37 #[.agg #[.int .u64 r, .int .u64 a, .int .u64 b, .int .i64 p, .int .i64 s, .slice A0 n c0]] w0 fun e w' => ∃ v, e = .returned (.agg #[.int .u64 r, .int .u64 a, .int .u64 b, .int .i64 p, .int .i64 s, v]) ∧ OwnB w' w0.heap.size v m (u8s d) ∧ Below w0.heap.size w0 w') := Lib.hid (fun w0 h0 => by have := few_any r a b p s A0 n c0 x w0 h0; rwa [hm, hd] at this)
  clear h hs hW1 hd hm
  go_enter Try.func17, Try.ntmps17
  go_wp2_with fail
  rw [HW1.out]
  refine (HF.out _ (HS.out.on (by rw [HBZ.out]; exact HB1.out))).mono ?_
  rintro e w2 ⟨v, rfl, hov, hb2⟩
  obtain ⟨Au, cu, rfl, _⟩ := Sl.of_own hov
  have hb1s : b0 ≤ W1.heap.size := Nat.le_of_lt (Blk.lt HO1.out)
  obtain ⟨T8, hT8⟩ : ∃ T8, w2.heap.size = T8 := ⟨_, rfl⟩
  obtain ⟨w3, hw3⟩ : ∃ w3, w2.alloc (.cells #[.int .u64 r, .int .u64 a, .int .u64 b, .int .i64 p, .int .i64 s, .slice Au m cu] 33) = w3 := ⟨_, rfl⟩
  have hb3 : Below W1.heap.size W1 w3 := by rw [← hw3]; exact bel_trans hb2 (bel_alloc _ _)
  have HO3 := Lib.hid (Blk.below HO1.out hb3 (Blk.lt HO1.out))
  have HT3 : Hid (Blk w3 T8 33 #[.int .u64 r, .int .u64 a, .int .u64 b, .int .i64 p, .int .i64 s, .slice Au m cu]) := Lib.hid (by rw [← hw3, ← hT8]; exact Blk.new w2 _ _)
  have HU3 : Hid (OwnB w3 b0 (.slice Au m cu) m (u8s d)) := Lib.hid (by rw [← hw3]; exact own_mono (World.ownsRow.alloc hov _) hb1s)
  have HB3 : Hid (Below b0 wr w3) := Lib.hid (HB1.out.trans (hb3.mono hb1s))
  have HD3 := Lib.hid (HD.out.below (by rw [HBZ.out]; exact HB3.out))
  have HW3 : Hid (w2.alloc (.cells #[.int .u64 r, .int .u64 a, .int .u64 b, .int .i64 p, .int .i64 s, .slice Au m cu] 33) = w3 ∧ w2.heap.size = T8 ∧ b0 ≤ T8) := Lib.hid ⟨hw3, hT8, by rw [← hT8]; exact Nat.le_trans hb1s hb2.size⟩
  clear hov hb2 hb1s hT8 hw3 hb3
  go_upto_region 2 with fail
  rw [HW3.out.1, HW3.out.2.1]
  have o0 := HO3.out.cell 0
  have o1 := HO3.out.cell 1
  obtain ⟨hHp, ⟨F, E, A, c, hE, hR, hFP, hFB⟩, hwP, hbel⟩ := HD3.out
  obtain ⟨X, hpg, hx⟩ := hHp
  have HX := Lib.hid hx
  have HPG := Lib.hid hpg
  have HR := Lib.hid hR
  have HE := Lib.hid hE
  have HFB := Lib.hid hFB
  have HBEL := Lib.hid hbel
  have HFP := Lib.hid hFP
  clear hE hR hFP hFB hwP hbel hpg hx
  go_wp2_with fail
  refine (bytes_pg P X w3 HPG.out).mono ?_
  rintro e w4 ⟨u, rfl, hou, hb4⟩
  obtain ⟨Ab, cb, rfl, hsl⟩ := Sl.of_own hou
  have HSL := Lib.hid hsl
  have HB4 := Lib.hid hb4
  clear hsl hou hb4
  go_wp2_with fail
  refine (load_has HSL.out HX.out HEN.out).mono ?_
  rintro e w5 ⟨Q, rfl, hq, hqs, hb5⟩
  have hR5 := (HR.out.below HB4.out).below hb5
  have hD5 : Duo w w5 Q R L st := ⟨⟨X, hq, HX.out⟩, ⟨F, E, A, c, HE.out, hR5, (fun hg => by have := (HR.out.below HB4.out).lt Q hg; omega), HFB.out⟩, Nat.le_trans HBEL.out.size (Nat.le_trans HB4.out.size hqs), (HBEL.out.trans (HB4.out.mono HBEL.out.size)).trans (hb5.mono (Nat.le_trans HBEL.out.size HB4.out.size))⟩
  have HD5 := Lib.hid hD5
  clear hR5 hD5 hq hqs hb5
  go_wp2_with fail
  go_ret2
  exact ⟨Q, rfl, HD5.out⟩
end
end Go.Proofs.Ytakpkmjkbfdgiaa.Mem
/- lapidarylaw05.do of nil pages. -/
namespace Go.Proofs.Ytakpkmjkbfdgiaa.Mem
open Go.RowKit Go.Proofs.Ytakpkmjkbfdgiaa.Nums
set_option linter.unusedVariables false
set_option linter.unusedSimpArgs false
set_option maxRecDepth 100000
set_option maxHeartbeats 4000000
section
variable {wr : World} {n c0 : Nat} {A0 : Option Addr}
theorem do_nil_ins (z i : Int) (r a b : Nat) (p s : Int) (x : List UInt8) (hx : x.length = n) (hs : Sl wr wr.heap.size 1 A0 n c0 (u8s x)) (hr : r < 18446744073709551616) (ha : a < 18446744073709551616) (hb : b < 18446744073709551616) (hz : 0 ≤ z ∧ z ≤ 255) (h4 : ¬ z % 8 = 4) (h5 : ¬ z % 8 = 5) (h6 : ¬ z % 8 = 6) (h7 : ¬ z % 8 = 7) :
    Calls Try.prog 17 #[.pointer none, .pointer none, .agg #[.int .u8 z, .int .i64 i, .int .u64 r, .int .u64 a, .int .u64 b, .int .i64 p, .int .i64 s, .slice A0 n c0]] wr fun e w' => e = .returned (.tuple #[.pointer none, .bool true]) ∧ Below wr.heap.size wr w' := by
  have HS := Lib.hid hs
  obtain ⟨b0, hb0⟩ : ∃ b0, wr.heap.size = b0 := ⟨_, rfl⟩
  obtain ⟨W1, hW1⟩ : ∃ W1, wr.alloc (.cells #[.int .u8 z, .int .i64 i, .int .u64 r, .int .u64 a, .int .u64 b, .int .i64 p, .int .i64 s, .slice A0 n c0] 35) = W1 := ⟨_, rfl⟩
  have HO1 : Hid (Blk W1 b0 35 #[.int .u8 z, .int .i64 i, .int .u64 r, .int .u64 a, .int .u64 b, .int .i64 p, .int .i64 s, .slice A0 n c0]) := Lib.hid (by rw [← hW1, ← hb0]; exact Blk.new wr _ _)
  have HB1 : Hid (Below b0 wr W1) := Lib.hid (by rw [← hW1, ← hb0]; exact bel_alloc _ _)
  have HW1 := Lib.hid hW1
  have HBZ := Lib.hid hb0
  obtain ⟨d, hd⟩ : ∃ d, x.take 230 = d := ⟨_, rfl⟩
  obtain ⟨m, hm⟩ : ∃ m, min n 230 = m := ⟨_, rfl⟩
  have HDL : Hid (d.length = m) := Lib.hid (by rw [← hd, ← hm, List.length_take, hx]; omega)
  have hm230 : m ≤ 230 := by omega
  have HF : Hid (∀ w0, Sl w0 w0.heap.size 1 A0 n c0 (u8s x) → Calls Try.prog 37 #[.agg #[.int .u64 r, .int .u64 a, .int .u64 b, .int .i64 p, .int .i64 s, .slice A0 n c0]] w0 fun e w' => ∃ v, e = .returned (.agg #[.int .u64 r, .int .u64 a, .int .u64 b, .int .i64 p, .int .i64 s, v]) ∧ OwnB w' w0.heap.size v m (u8s d) ∧ Below w0.heap.size w0 w') := Lib.hid (fun w0 h0 => by have := few_any r a b p s A0 n c0 x w0 h0; rwa [hm, hd] at this)
  clear hs hW1 hd hm
  go_enter Try.func17, Try.ntmps17
  go_wp2_with fail
  rw [HW1.out]
  refine (HF.out _ (HS.out.on (by rw [HBZ.out]; exact HB1.out))).mono ?_
  rintro e w2 ⟨v, rfl, hov, hb2⟩
  obtain ⟨Au, cu, rfl, _⟩ := Sl.of_own hov
  have hb1s : b0 ≤ W1.heap.size := Nat.le_of_lt (Blk.lt HO1.out)
  obtain ⟨T8, hT8⟩ : ∃ T8, w2.heap.size = T8 := ⟨_, rfl⟩
  obtain ⟨w3, hw3⟩ : ∃ w3, w2.alloc (.cells #[.int .u64 r, .int .u64 a, .int .u64 b, .int .i64 p, .int .i64 s, .slice Au m cu] 33) = w3 := ⟨_, rfl⟩
  have hb3 : Below W1.heap.size W1 w3 := by rw [← hw3]; exact bel_trans hb2 (bel_alloc _ _)
  have HO3 := Lib.hid (Blk.below HO1.out hb3 (Blk.lt HO1.out))
  have HT3 : Hid (Blk w3 T8 33 #[.int .u64 r, .int .u64 a, .int .u64 b, .int .i64 p, .int .i64 s, .slice Au m cu]) := Lib.hid (by rw [← hw3, ← hT8]; exact Blk.new w2 _ _)
  have HU3 : Hid (OwnB w3 b0 (.slice Au m cu) m (u8s d)) := Lib.hid (by rw [← hw3]; exact own_mono (World.ownsRow.alloc hov _) hb1s)
  have HB3 : Hid (Below b0 wr w3) := Lib.hid (HB1.out.trans (hb3.mono hb1s))
  have HW3 : Hid (w2.alloc (.cells #[.int .u64 r, .int .u64 a, .int .u64 b, .int .i64 p, .int .i64 s, .slice Au m cu] 33) = w3 ∧ w2.heap.size = T8 ∧ b0 ≤ T8) := Lib.hid ⟨hw3, hT8, by rw [← hT8]; exact Nat.le_trans hb1s hb2.size⟩
  clear hov hb2 hb1s hT8 hw3 hb3
  go_upto_region 2 with fail
  rw [HW3.out.1, HW3.out.2.1]
  have o0 := HO3.out.cell 0
  have o1 := HO3.out.cell 1
  have hlb := Blk.lt HO3.out
  have hlT := Blk.lt HT3.out
  have HDR : Hid (∀ w', Below w3.drew.heap.size w3.drew w' → Below w3.heap.size w3 w') := Lib.hid (fun w' hb => (⟨rfl, rfl, rfl, Nat.le_refl _, fun _ _ => rfl⟩ : Below w3.heap.size w3 w3.drew).trans hb)
  have o2 := HO3.out.cell 2
  have o3 := HO3.out.cell 3
  have o4 := HO3.out.cell 4
  have o5 := HO3.out.cell 5
  have o6 := HO3.out.cell 6
  have o7 := HO3.out.cell 7
  have e4 : (z % 8 == 4) = false := beq_eq_false_iff_ne.2 h4
  have e5 : (z % 8 == 5) = false := beq_eq_false_iff_ne.2 h5
  have e6 : (z % 8 == 6) = false := beq_eq_false_iff_ne.2 h6
  have e7 : (z % 8 == 7) = false := beq_eq_false_iff_ne.2 h7
  go_wp2_with fail
  clear o0 o1 o2 o3 o4 o5 o6 o7
  refine (HF.out _ (HS.out.on (by rw [HBZ.out]; exact HB3.out))).mono ?_
  rintro e w4 ⟨v, rfl, hov, hb4⟩
  obtain ⟨Am, cm, rfl, _⟩ := Sl.of_own hov
  obtain ⟨TM, hTM⟩ : ∃ TM, w4.heap.size = TM := ⟨_, rfl⟩
  obtain ⟨w5, hw5⟩ : ∃ w5, w4.alloc (.cells #[.int .u64 r, .int .u64 a, .int .u64 b, .int .i64 p, .int .i64 s, .slice Am m cm] 33) = w5 := ⟨_, rfl⟩
  have hb5 : Below w3.heap.size w3 w5 := by rw [← hw5]; exact bel_trans hb4 (bel_alloc _ _)
  have HB5 := Lib.hid hb5
  have HM5 : Hid (Blk w5 TM 33 #[.int .u64 r, .int .u64 a, .int .u64 b, .int .i64 p, .int .i64 s, .slice Am m cm]) := Lib.hid (by rw [← hw5, ← hTM]; exact Blk.new w4 _ _)
  have HT5 := Lib.hid (Blk.below HT3.out hb5 hlT)
  have HN5 : Hid (w5.ownsRow w3.heap.size 5 1 (.slice Am m cm) m (u8s d)) := Lib.hid (by rw [← hw5]; exact World.ownsRow.alloc hov _)
  have HU5 : Hid (OwnB w5 b0 (.slice Au m cu) m (u8s d)) := Lib.hid (own_keep HU3.out (fun k hk => hb5.block k (HU3.out.lt k hk).2))
  have HW5 := Lib.hid hw5
  have hTM2 := Lib.hid hTM
  clear hov hb4 hw5 hTM hb5
  go_upto_region 14 with fail
  rw [HW5.out, hTM2.out]
  have x0 := HM5.out.cell 0
  have x1 := HM5.out.cell 1
  have x2 := HM5.out.cell 2
  have x3 := HM5.out.cell 3
  have x4 := HM5.out.cell 4
  have x5 := HM5.out.cell 5
  go_wp2_with fail
  clear x0 x1 x2 x3 x4 x5
  refine (insert_nil r a b m cm p s Am w5).mono ?_
  rintro e w6 ⟨rfl, hb6⟩
  have HB6 := Lib.hid hb6
  have HT6 := Lib.hid (Blk.below HT5.out hb6 (Blk.lt HT5.out))
  clear hb6
  have x0 := HT6.out.cell 0
  have x1 := HT6.out.cell 1
  have x2 := HT6.out.cell 2
  have x3 := HT6.out.cell 3
  have x4 := HT6.out.cell 4
  have x5 := HT6.out.cell 5
  go_wp2_with fail
  clear x0 x1 x2 x3 x4 x5
  refine (rins_nil r a b m cu p s Au w6).mono ?_
  rintro e w7 ⟨rfl, hb7⟩
  have HB57 : Hid (Below w5.heap.size w5 w7) := Lib.hid (bel_trans HB6.out hb7)
  clear hb7
  have HT7 := Lib.hid (Blk.below HT5.out HB57.out (Blk.lt HT5.out))
  have HM7 := Lib.hid (Blk.below HM5.out HB57.out (Blk.lt HM5.out))
  have HN7 : Hid (w7.ownsRow w3.heap.size 5 1 (.slice Am m cm) m (u8s d)) := Lib.hid (own_keep HN5.out fun k hk => HB57.out.block k (HN5.out.lt k hk).2)
  have HU7 : Hid (w7.ownsRow b0 5 1 (.slice Au m cu) m (u8s d)) := Lib.hid (own_keep HU5.out fun k hk => HB57.out.block k (HU5.out.lt k hk).2)
  have x0 := HM7.out.cell 0
  have x1 := HM7.out.cell 1
  have x2 := HM7.out.cell 2
  have x3 := HM7.out.cell 3
  have x4 := HM7.out.cell 4
  have x5 := HM7.out.cell 5
  have y0 := HT7.out.cell 0
  have y1 := HT7.out.cell 1
  have y2 := HT7.out.cell 2
  have y3 := HT7.out.cell 3
  have y4 := HT7.out.cell 4
  have y5 := HT7.out.cell 5
  go_wp2_with fail
  clear x0 x1 x2 x3 x4 x5 y0 y1 y2 y3 y4 y5
  refine (samet_yes r a b p s Am Au m cm m cu d w7 (sl_own HN7.out) (sl_own HU7.out)).mono ?_
  rintro e w8 ⟨rfl, hb8⟩
  have HM8 := Lib.hid (Blk.below HM7.out hb8 (Blk.lt HM7.out))
  have HN8 : Hid (w8.ownsRow w3.heap.size 5 1 (.slice Am m cm) m (u8s d)) := Lib.hid (own_keep HN7.out fun k hk => hb8.block k (HN7.out.lt k hk).2)
  have HB8 : Hid (Below wr.heap.size wr w8) := Lib.hid (by rw [HBZ.out]; exact HB3.out.trans ((bel_trans HB5.out (bel_trans HB57.out hb8)).mono (by have := HB3.out.size; have := HBZ.out; omega)))
  have HB3S : Hid (wr.heap.size ≤ w3.heap.size) := Lib.hid (by have := HB3.out.size; exact this)
  clear hb8
  have x5 := HM8.out.cell 5
  go_wp2_with fail
  obtain ⟨G, hG⟩ : ∃ G, 0 < m → (Am = some ⟨G, 0, none⟩ ∧ m ≤ cm ∧ (Value.slice Am m cm).ownBlock = some G ∧ ∃ cur, Blk w8 G 5 cur ∧ ∀ j y, j < m → (u8s d)[j]? = some y → cur[j]? = some y) := by
    rcases HN8.out.2 with ⟨hv, hm0⟩ | ⟨g, cap, cur, hv, hbg, hg, hnc, hcm, hcs, htake⟩
    · exact ⟨0, fun h => absurd h (by omega)⟩
    · refine ⟨g, fun h => ?_⟩
      injection hv with q1 _ q3
      subst q1 q3
      refine ⟨rfl, hnc, rfl, cur, hg, fun j y hj hy => ?_⟩
      rw [← htake, List.getElem?_take, if_pos (by omega), Array.getElem?_toList] at hy
      exact hy
  have HG := Lib.hid hG
  clear hG x5
  go_loopw [106] (fun i wl => ∃ k : Nat, k ≤ m ∧ i = .int .i64 k ∧ Only G w8 wl ∧ (m = 0 → wl = w8) ∧ (0 < m → ∃ cur, Blk wl G 5 cur ∧ ∀ j y, k ≤ j → j < m → (u8s d)[j]? = some y → cur[j]? = some y)) (fun i _ => m - (intOf i).toNat)
  case atStart => exact ⟨0, by omega, rfl, Only.refl _ _, fun _ => rfl, fun h => by obtain ⟨_, _, _, cur, h1, h2⟩ := HG.out h; exact ⟨cur, h1, fun j y _ hj hy => h2 j y hj hy⟩⟩
  case round =>
    obtain ⟨k, hk, rfl, ho, hz0, hcur⟩ := hrel
    have HO := Lib.hid ho
    have HZ0 := Lib.hid hz0
    have HCUR := Lib.hid hcur
    clear ho hz0 hcur
    by_cases hlt : k < m
    · have hlt' : (k : Int) < m := by omega
      have hm0 : 0 < m := by omega
      obtain ⟨hA, hmc, hown, _, hb0G, _⟩ := HG.out hm0
      obtain ⟨cur, hbl, hcells⟩ := HCUR.out hm0
      obtain ⟨y, hy⟩ : ∃ y, d[k]? = some y := ⟨_, List.getElem?_eq_getElem (by rw [HDL.out]; exact hlt)⟩
      have hck := hcells k _ (Nat.le_refl _) hlt (u8s_get hy)
      have y0 := hbl.cell k
      rw [hck] at y0
      have z0 := hbl.frozen k
      have hne := Blk.ne_ HM8.out hb0G (by decide)
      have HML := Lib.hid (HO.out.blk HM8.out hne)
      have x5 := HML.out.cell 5
      have hk0 : (0 : Int) ≤ k := by omega
      have HS2 : Hid (∀ v, Blk (wr.setCell ⟨G, k, none⟩ v) G 5 (cur.setIfInBounds k v)) := Lib.hid (fun v => Blk.set_ hbl k v)
      have HCC := Lib.hid hcells
      subst hA
      clear hck hy hbl hcells
      go_wp2_with fail
      go_roundw
      case rel =>
        refine ⟨k + 1, by omega, by go_num, HO.out.set_ _ _, fun h => absurd h (by omega), fun _ => ⟨_, HS2.out _, fun j y hj hjm hy => ?_⟩⟩
        rw [Array.getElem?_setIfInBounds, if_neg (by omega)]
        exact HCC.out j y (by omega) hjm hy
      case measure => simp [intOf]; omega
    · obtain rfl : k = m := by omega
      go_wp2_with fail
      go_ret2
  
      refine ⟨rfl, ?_⟩
      by_cases hm0 : k = 0
      · rw [HZ0.out hm0]; exact HB8.out
      · obtain ⟨_, _, hown, _⟩ := HG.out (by omega)
        exact HB8.out.trans (HO.out.below HB8.out.size (Nat.le_trans HB3S.out (HN8.out.lt G hown).1))
theorem do_nil_stamp (z i : Int) (r a b : Nat) (p s : Int) (x : List UInt8) (hx : x.length = n) (hs : Sl wr wr.heap.size 1 A0 n c0 (u8s x)) (hr : r < 18446744073709551616) (ha : a < 18446744073709551616) (hb : b < 18446744073709551616) (hz : 0 ≤ z ∧ z ≤ 255) (h4 : Int.tmod z 8 = 4) :
    Calls Try.prog 17 #[.pointer none, .pointer none, .agg #[.int .u8 z, .int .i64 i, .int .u64 r, .int .u64 a, .int .u64 b, .int .i64 p, .int .i64 s, .slice A0 n c0]] wr fun e w' => e = .returned (.tuple #[.pointer none, .bool true]) ∧ Below wr.heap.size wr w' := by
  have HS := Lib.hid hs
  obtain ⟨b0, hb0⟩ : ∃ b0, wr.heap.size = b0 := ⟨_, rfl⟩
  obtain ⟨W1, hW1⟩ : ∃ W1, wr.alloc (.cells #[.int .u8 z, .int .i64 i, .int .u64 r, .int .u64 a, .int .u64 b, .int .i64 p, .int .i64 s, .slice A0 n c0] 35) = W1 := ⟨_, rfl⟩
  have HO1 : Hid (Blk W1 b0 35 #[.int .u8 z, .int .i64 i, .int .u64 r, .int .u64 a, .int .u64 b, .int .i64 p, .int .i64 s, .slice A0 n c0]) := Lib.hid (by rw [← hW1, ← hb0]; exact Blk.new wr _ _)
  have HB1 : Hid (Below b0 wr W1) := Lib.hid (by rw [← hW1, ← hb0]; exact bel_alloc _ _)
  have HW1 := Lib.hid hW1
  have HBZ := Lib.hid hb0
  obtain ⟨d, hd⟩ : ∃ d, x.take 230 = d := ⟨_, rfl⟩
  obtain ⟨m, hm⟩ : ∃ m, min n 230 = m := ⟨_, rfl⟩
  have HDL : Hid (d.length = m) := Lib.hid (by rw [← hd, ← hm, List.length_take, hx]; omega)
  have hm230 : m ≤ 230 := by omega
  have HF : Hid (∀ w0, Sl w0 w0.heap.size 1 A0 n c0 (u8s x) → Calls Try.prog 37 #[.agg #[.int .u64 r, .int .u64 a, .int .u64 b, .int .i64 p, .int .i64 s, .slice A0 n c0]] w0 fun e w' => ∃ v, e = .returned (.agg #[.int .u64 r, .int .u64 a, .int .u64 b, .int .i64 p, .int .i64 s, v]) ∧ OwnB w' w0.heap.size v m (u8s d) ∧ Below w0.heap.size w0 w') := Lib.hid (fun w0 h0 => by have := few_any r a b p s A0 n c0 x w0 h0; rwa [hm, hd] at this)
  clear hs hW1 hd hm
  go_enter Try.func17, Try.ntmps17
  go_wp2_with fail
  rw [HW1.out]
  refine (HF.out _ (HS.out.on (by rw [HBZ.out]; exact HB1.out))).mono ?_
  rintro e w2 ⟨v, rfl, hov, hb2⟩
  obtain ⟨Au, cu, rfl, _⟩ := Sl.of_own hov
  have hb1s : b0 ≤ W1.heap.size := Nat.le_of_lt (Blk.lt HO1.out)
  obtain ⟨T8, hT8⟩ : ∃ T8, w2.heap.size = T8 := ⟨_, rfl⟩
  obtain ⟨w3, hw3⟩ : ∃ w3, w2.alloc (.cells #[.int .u64 r, .int .u64 a, .int .u64 b, .int .i64 p, .int .i64 s, .slice Au m cu] 33) = w3 := ⟨_, rfl⟩
  have hb3 : Below W1.heap.size W1 w3 := by rw [← hw3]; exact bel_trans hb2 (bel_alloc _ _)
  have HO3 := Lib.hid (Blk.below HO1.out hb3 (Blk.lt HO1.out))
  have HT3 : Hid (Blk w3 T8 33 #[.int .u64 r, .int .u64 a, .int .u64 b, .int .i64 p, .int .i64 s, .slice Au m cu]) := Lib.hid (by rw [← hw3, ← hT8]; exact Blk.new w2 _ _)
  have HU3 : Hid (OwnB w3 b0 (.slice Au m cu) m (u8s d)) := Lib.hid (by rw [← hw3]; exact own_mono (World.ownsRow.alloc hov _) hb1s)
  have HB3 : Hid (Below b0 wr w3) := Lib.hid (HB1.out.trans (hb3.mono hb1s))
  have HW3 : Hid (w2.alloc (.cells #[.int .u64 r, .int .u64 a, .int .u64 b, .int .i64 p, .int .i64 s, .slice Au m cu] 33) = w3 ∧ w2.heap.size = T8 ∧ b0 ≤ T8) := Lib.hid ⟨hw3, hT8, by rw [← hT8]; exact Nat.le_trans hb1s hb2.size⟩
  clear hov hb2 hb1s hT8 hw3 hb3
  go_upto_region 2 with fail
  rw [HW3.out.1, HW3.out.2.1]
  have o0 := HO3.out.cell 0
  have o1 := HO3.out.cell 1
  have hlb := Blk.lt HO3.out
  have hlT := Blk.lt HT3.out
  have HDR : Hid (∀ w', Below w3.drew.heap.size w3.drew w' → Below w3.heap.size w3 w') := Lib.hid (fun w' hb => (⟨rfl, rfl, rfl, Nat.le_refl _, fun _ _ => rfl⟩ : Below w3.heap.size w3 w3.drew).trans hb)
  go_wp2_with fail
  have t2 := HT3.out.cell 2
  have t3 := HT3.out.cell 3
  have t4 := HT3.out.cell 4
  have KP : Hid (∀ w', Below w3.heap.size w3 w' → w'.cell? ⟨b0, 1, none⟩ = some (.int .i64 i) ∧ w'.cell? ⟨T8, 2, none⟩ = some (.int .u64 b) ∧ w'.cell? ⟨T8, 3, none⟩ = some (.int .i64 p) ∧ w'.cell? ⟨T8, 4, none⟩ = some (.int .i64 s)) := Lib.hid (fun w' hb => ⟨(Blk.below HO3.out hb hlb).cell 1, (Blk.below HT3.out hb hlT).cell 2, (Blk.below HT3.out hb hlT).cell 3, (Blk.below HT3.out hb hlT).cell 4⟩)
  go_region_held3 (fun w' => w'.cell? ⟨b0, 1, none⟩ = some (.int .i64 i) ∧ w'.cell? ⟨T8, 2, none⟩ = some (.int .u64 b) ∧ w'.cell? ⟨T8, 3, none⟩ = some (.int .i64 p) ∧ w'.cell? ⟨T8, 4, none⟩ = some (.int .i64 s)) (first | go_keep | exact KP.out _ (HDR.out _ hb4) | exact KP.out _ (bel_trans (HDR.out _ hb4) hb5))
    (first
      | (go_at_call 38; refine (stamp_nil i b p s _).mono ?_; rintro e w4 ⟨rfl, hb4⟩)
      | (go_at_call 62; refine (rstamp_nil i b p s _).mono ?_; rintro e w5 ⟨rfl, hb5⟩))
  go_wp2_with fail
  go_ret2
  exact ⟨rfl, by rw [HBZ.out]; exact HB3.out.trans ((bel_trans (HDR.out _ hb4) hb5).mono (by have := HB3.out.size; have := HBZ.out; omega))⟩
theorem do_nil_free5 (z i : Int) (r a b : Nat) (p s : Int) (x : List UInt8) (hx : x.length = n) (hs : Sl wr wr.heap.size 1 A0 n c0 (u8s x)) (hr : r < 18446744073709551616) (ha : a < 18446744073709551616) (hb : b < 18446744073709551616) (hz : 0 ≤ z ∧ z ≤ 255) (h4 : Int.tmod z 8 = 5) :
    Calls Try.prog 17 #[.pointer none, .pointer none, .agg #[.int .u8 z, .int .i64 i, .int .u64 r, .int .u64 a, .int .u64 b, .int .i64 p, .int .i64 s, .slice A0 n c0]] wr fun e w' => e = .returned (.tuple #[.pointer none, .bool true]) ∧ Below wr.heap.size wr w' := by
  have HS := Lib.hid hs
  obtain ⟨b0, hb0⟩ : ∃ b0, wr.heap.size = b0 := ⟨_, rfl⟩
  obtain ⟨W1, hW1⟩ : ∃ W1, wr.alloc (.cells #[.int .u8 z, .int .i64 i, .int .u64 r, .int .u64 a, .int .u64 b, .int .i64 p, .int .i64 s, .slice A0 n c0] 35) = W1 := ⟨_, rfl⟩
  have HO1 : Hid (Blk W1 b0 35 #[.int .u8 z, .int .i64 i, .int .u64 r, .int .u64 a, .int .u64 b, .int .i64 p, .int .i64 s, .slice A0 n c0]) := Lib.hid (by rw [← hW1, ← hb0]; exact Blk.new wr _ _)
  have HB1 : Hid (Below b0 wr W1) := Lib.hid (by rw [← hW1, ← hb0]; exact bel_alloc _ _)
  have HW1 := Lib.hid hW1
  have HBZ := Lib.hid hb0
  obtain ⟨d, hd⟩ : ∃ d, x.take 230 = d := ⟨_, rfl⟩
  obtain ⟨m, hm⟩ : ∃ m, min n 230 = m := ⟨_, rfl⟩
  have HDL : Hid (d.length = m) := Lib.hid (by rw [← hd, ← hm, List.length_take, hx]; omega)
  have hm230 : m ≤ 230 := by omega
  have HF : Hid (∀ w0, Sl w0 w0.heap.size 1 A0 n c0 (u8s x) → Calls Try.prog 37 #[.agg #[.int .u64 r, .int .u64 a, .int .u64 b, .int .i64 p, .int .i64 s, .slice A0 n c0]] w0 fun e w' => ∃ v, e = .returned (.agg #[.int .u64 r, .int .u64 a, .int .u64 b, .int .i64 p, .int .i64 s, v]) ∧ OwnB w' w0.heap.size v m (u8s d) ∧ Below w0.heap.size w0 w') := Lib.hid (fun w0 h0 => by have := few_any r a b p s A0 n c0 x w0 h0; rwa [hm, hd] at this)
  clear hs hW1 hd hm
  go_enter Try.func17, Try.ntmps17
  go_wp2_with fail
  rw [HW1.out]
  refine (HF.out _ (HS.out.on (by rw [HBZ.out]; exact HB1.out))).mono ?_
  rintro e w2 ⟨v, rfl, hov, hb2⟩
  obtain ⟨Au, cu, rfl, _⟩ := Sl.of_own hov
  have hb1s : b0 ≤ W1.heap.size := Nat.le_of_lt (Blk.lt HO1.out)
  obtain ⟨T8, hT8⟩ : ∃ T8, w2.heap.size = T8 := ⟨_, rfl⟩
  obtain ⟨w3, hw3⟩ : ∃ w3, w2.alloc (.cells #[.int .u64 r, .int .u64 a, .int .u64 b, .int .i64 p, .int .i64 s, .slice Au m cu] 33) = w3 := ⟨_, rfl⟩
  have hb3 : Below W1.heap.size W1 w3 := by rw [← hw3]; exact bel_trans hb2 (bel_alloc _ _)
  have HO3 := Lib.hid (Blk.below HO1.out hb3 (Blk.lt HO1.out))
  have HT3 : Hid (Blk w3 T8 33 #[.int .u64 r, .int .u64 a, .int .u64 b, .int .i64 p, .int .i64 s, .slice Au m cu]) := Lib.hid (by rw [← hw3, ← hT8]; exact Blk.new w2 _ _)
  have HU3 : Hid (OwnB w3 b0 (.slice Au m cu) m (u8s d)) := Lib.hid (by rw [← hw3]; exact own_mono (World.ownsRow.alloc hov _) hb1s)
  have HB3 : Hid (Below b0 wr w3) := Lib.hid (HB1.out.trans (hb3.mono hb1s))
  have HW3 : Hid (w2.alloc (.cells #[.int .u64 r, .int .u64 a, .int .u64 b, .int .i64 p, .int .i64 s, .slice Au m cu] 33) = w3 ∧ w2.heap.size = T8 ∧ b0 ≤ T8) := Lib.hid ⟨hw3, hT8, by rw [← hT8]; exact Nat.le_trans hb1s hb2.size⟩
  clear hov hb2 hb1s hT8 hw3 hb3
  go_upto_region 2 with fail
  rw [HW3.out.1, HW3.out.2.1]
  have o0 := HO3.out.cell 0
  have o1 := HO3.out.cell 1
  have hlb := Blk.lt HO3.out
  have hlT := Blk.lt HT3.out
  have HDR : Hid (∀ w', Below w3.drew.heap.size w3.drew w' → Below w3.heap.size w3 w') := Lib.hid (fun w' hb => (⟨rfl, rfl, rfl, Nat.le_refl _, fun _ _ => rfl⟩ : Below w3.heap.size w3 w3.drew).trans hb)
  go_wp2_with fail
  have KP : Hid (∀ w', Below w3.heap.size w3 w' → w'.cell? ⟨b0, 1, none⟩ = some (.int .i64 i)) := Lib.hid (fun w' hb => (Blk.below HO3.out hb hlb).cell 1)
  have HG : Hid (∀ w0, Calls Try.prog 35 #[.pointer none, .int .i64 i] w0 fun e w' => e = .returned (.int .i64 15) ∧ Below w0.heap.size w0 w') := Lib.hid (fun w0 => (free_nil i w0).mono (by rintro e w' ⟨rfl, m, rfl⟩; exact ⟨rfl, ⟨rfl, rfl, rfl, Nat.le_refl _, fun _ _ => rfl⟩⟩))
  go_region_held3 (fun w' => w'.cell? ⟨b0, 1, none⟩ = some (.int .i64 i)) (first | go_keep | exact KP.out _ (HDR.out _ hb4) | exact KP.out _ (bel_trans (HDR.out _ hb4) hb5))
    (first
      | (go_at_call 35; refine (HG.out _).mono ?_; rintro e w4 ⟨rfl, hb4⟩)
      | (go_at_call 63; refine (rfree_of none i _ (rget_nil i _)).mono ?_; rintro e w5 ⟨rfl, hb5⟩))
  go_wp2_with fail
  go_ret2
  exact ⟨rfl, by rw [HBZ.out]; exact HB3.out.trans ((bel_trans (HDR.out _ hb4) hb5).mono (by have := HB3.out.size; have := HBZ.out; omega))⟩
theorem do_nil_free6 (z i : Int) (r a b : Nat) (p s : Int) (x : List UInt8) (hx : x.length = n) (hs : Sl wr wr.heap.size 1 A0 n c0 (u8s x)) (hr : r < 18446744073709551616) (ha : a < 18446744073709551616) (hb : b < 18446744073709551616) (hz : 0 ≤ z ∧ z ≤ 255) (h4 : Int.tmod z 8 = 6) :
    Calls Try.prog 17 #[.pointer none, .pointer none, .agg #[.int .u8 z, .int .i64 i, .int .u64 r, .int .u64 a, .int .u64 b, .int .i64 p, .int .i64 s, .slice A0 n c0]] wr fun e w' => e = .returned (.tuple #[.pointer none, .bool true]) ∧ Below wr.heap.size wr w' := by
  have HS := Lib.hid hs
  obtain ⟨b0, hb0⟩ : ∃ b0, wr.heap.size = b0 := ⟨_, rfl⟩
  obtain ⟨W1, hW1⟩ : ∃ W1, wr.alloc (.cells #[.int .u8 z, .int .i64 i, .int .u64 r, .int .u64 a, .int .u64 b, .int .i64 p, .int .i64 s, .slice A0 n c0] 35) = W1 := ⟨_, rfl⟩
  have HO1 : Hid (Blk W1 b0 35 #[.int .u8 z, .int .i64 i, .int .u64 r, .int .u64 a, .int .u64 b, .int .i64 p, .int .i64 s, .slice A0 n c0]) := Lib.hid (by rw [← hW1, ← hb0]; exact Blk.new wr _ _)
  have HB1 : Hid (Below b0 wr W1) := Lib.hid (by rw [← hW1, ← hb0]; exact bel_alloc _ _)
  have HW1 := Lib.hid hW1
  have HBZ := Lib.hid hb0
  obtain ⟨d, hd⟩ : ∃ d, x.take 230 = d := ⟨_, rfl⟩
  obtain ⟨m, hm⟩ : ∃ m, min n 230 = m := ⟨_, rfl⟩
  have HDL : Hid (d.length = m) := Lib.hid (by rw [← hd, ← hm, List.length_take, hx]; omega)
  have hm230 : m ≤ 230 := by omega
  have HF : Hid (∀ w0, Sl w0 w0.heap.size 1 A0 n c0 (u8s x) → Calls Try.prog 37 #[.agg #[.int .u64 r, .int .u64 a, .int .u64 b, .int .i64 p, .int .i64 s, .slice A0 n c0]] w0 fun e w' => ∃ v, e = .returned (.agg #[.int .u64 r, .int .u64 a, .int .u64 b, .int .i64 p, .int .i64 s, v]) ∧ OwnB w' w0.heap.size v m (u8s d) ∧ Below w0.heap.size w0 w') := Lib.hid (fun w0 h0 => by have := few_any r a b p s A0 n c0 x w0 h0; rwa [hm, hd] at this)
  clear hs hW1 hd hm
  go_enter Try.func17, Try.ntmps17
  go_wp2_with fail
  rw [HW1.out]
  refine (HF.out _ (HS.out.on (by rw [HBZ.out]; exact HB1.out))).mono ?_
  rintro e w2 ⟨v, rfl, hov, hb2⟩
  obtain ⟨Au, cu, rfl, _⟩ := Sl.of_own hov
  have hb1s : b0 ≤ W1.heap.size := Nat.le_of_lt (Blk.lt HO1.out)
  obtain ⟨T8, hT8⟩ : ∃ T8, w2.heap.size = T8 := ⟨_, rfl⟩
  obtain ⟨w3, hw3⟩ : ∃ w3, w2.alloc (.cells #[.int .u64 r, .int .u64 a, .int .u64 b, .int .i64 p, .int .i64 s, .slice Au m cu] 33) = w3 := ⟨_, rfl⟩
  have hb3 : Below W1.heap.size W1 w3 := by rw [← hw3]; exact bel_trans hb2 (bel_alloc _ _)
  have HO3 := Lib.hid (Blk.below HO1.out hb3 (Blk.lt HO1.out))
  have HT3 : Hid (Blk w3 T8 33 #[.int .u64 r, .int .u64 a, .int .u64 b, .int .i64 p, .int .i64 s, .slice Au m cu]) := Lib.hid (by rw [← hw3, ← hT8]; exact Blk.new w2 _ _)
  have HU3 : Hid (OwnB w3 b0 (.slice Au m cu) m (u8s d)) := Lib.hid (by rw [← hw3]; exact own_mono (World.ownsRow.alloc hov _) hb1s)
  have HB3 : Hid (Below b0 wr w3) := Lib.hid (HB1.out.trans (hb3.mono hb1s))
  have HW3 : Hid (w2.alloc (.cells #[.int .u64 r, .int .u64 a, .int .u64 b, .int .i64 p, .int .i64 s, .slice Au m cu] 33) = w3 ∧ w2.heap.size = T8 ∧ b0 ≤ T8) := Lib.hid ⟨hw3, hT8, by rw [← hT8]; exact Nat.le_trans hb1s hb2.size⟩
  clear hov hb2 hb1s hT8 hw3 hb3
  go_upto_region 2 with fail
  rw [HW3.out.1, HW3.out.2.1]
  have o0 := HO3.out.cell 0
  have o1 := HO3.out.cell 1
  have hlb := Blk.lt HO3.out
  have hlT := Blk.lt HT3.out
  have HDR : Hid (∀ w', Below w3.drew.heap.size w3.drew w' → Below w3.heap.size w3 w') := Lib.hid (fun w' hb => (⟨rfl, rfl, rfl, Nat.le_refl _, fun _ _ => rfl⟩ : Below w3.heap.size w3 w3.drew).trans hb)
  go_wp2_with fail
  have KP : Hid (∀ w', Below w3.heap.size w3 w' → w'.cell? ⟨b0, 1, none⟩ = some (.int .i64 i)) := Lib.hid (fun w' hb => (Blk.below HO3.out hb hlb).cell 1)
  have HG : Hid (∀ w0, Calls Try.prog 35 #[.pointer none, .int .i64 i] w0 fun e w' => e = .returned (.int .i64 15) ∧ Below w0.heap.size w0 w') := Lib.hid (fun w0 => (free_nil i w0).mono (by rintro e w' ⟨rfl, m, rfl⟩; exact ⟨rfl, ⟨rfl, rfl, rfl, Nat.le_refl _, fun _ _ => rfl⟩⟩))
  go_region_held3 (fun w' => w'.cell? ⟨b0, 1, none⟩ = some (.int .i64 i)) (first | go_keep | exact KP.out _ (HDR.out _ hb4) | exact KP.out _ (bel_trans (HDR.out _ hb4) hb5))
    (first
      | (go_at_call 35; refine (HG.out _).mono ?_; rintro e w4 ⟨rfl, hb4⟩)
      | (go_at_call 63; refine (rfree_of none i _ (rget_nil i _)).mono ?_; rintro e w5 ⟨rfl, hb5⟩))
  go_wp2_with fail
  go_ret2
  exact ⟨rfl, by rw [HBZ.out]; exact HB3.out.trans ((bel_trans (HDR.out _ hb4) hb5).mono (by have := HB3.out.size; have := HBZ.out; omega))⟩
theorem do_nil_seven (z i : Int) (r a b : Nat) (p s : Int) (x : List UInt8) (hx : x.length = n) (hs : Sl wr wr.heap.size 1 A0 n c0 (u8s x)) (hr : r < 18446744073709551616) (ha : a < 18446744073709551616) (hb : b < 18446744073709551616) (hz : 0 ≤ z ∧ z ≤ 255) (h4 : Int.tmod z 8 = 7) :
    Calls Try.prog 17 #[.pointer none, .pointer none, .agg #[.int .u8 z, .int .i64 i, .int .u64 r, .int .u64 a, .int .u64 b, .int .i64 p, .int .i64 s, .slice A0 n c0]] wr fun e w' => e = .returned (.tuple #[.pointer none, .bool true]) ∧ Below wr.heap.size wr w' := by
  have HS := Lib.hid hs
  obtain ⟨b0, hb0⟩ : ∃ b0, wr.heap.size = b0 := ⟨_, rfl⟩
  obtain ⟨W1, hW1⟩ : ∃ W1, wr.alloc (.cells #[.int .u8 z, .int .i64 i, .int .u64 r, .int .u64 a, .int .u64 b, .int .i64 p, .int .i64 s, .slice A0 n c0] 35) = W1 := ⟨_, rfl⟩
  have HO1 : Hid (Blk W1 b0 35 #[.int .u8 z, .int .i64 i, .int .u64 r, .int .u64 a, .int .u64 b, .int .i64 p, .int .i64 s, .slice A0 n c0]) := Lib.hid (by rw [← hW1, ← hb0]; exact Blk.new wr _ _)
  have HB1 : Hid (Below b0 wr W1) := Lib.hid (by rw [← hW1, ← hb0]; exact bel_alloc _ _)
  have HW1 := Lib.hid hW1
  have HBZ := Lib.hid hb0
  obtain ⟨d, hd⟩ : ∃ d, x.take 230 = d := ⟨_, rfl⟩
  obtain ⟨m, hm⟩ : ∃ m, min n 230 = m := ⟨_, rfl⟩
  have HDL : Hid (d.length = m) := Lib.hid (by rw [← hd, ← hm, List.length_take, hx]; omega)
  have hm230 : m ≤ 230 := by omega
  have HF : Hid (∀ w0, Sl w0 w0.heap.size 1 A0 n c0 (u8s x) → Calls Try.prog 37 #[.agg #[.int .u64 r, .int .u64 a, .int .u64 b, .int .i64 p, .int .i64 s, .slice A0 n c0]] w0 fun e w' => ∃ v, e = .returned (.agg #[.int .u64 r, .int .u64 a, .int .u64 b, .int .i64 p, .int .i64 s, v]) ∧ OwnB w' w0.heap.size v m (u8s d) ∧ Below w0.heap.size w0 w') := Lib.hid (fun w0 h0 => by have := few_any r a b p s A0 n c0 x w0 h0; rwa [hm, hd] at this)
  clear hs hW1 hd hm
  go_enter Try.func17, Try.ntmps17
  go_wp2_with fail
  rw [HW1.out]
  refine (HF.out _ (HS.out.on (by rw [HBZ.out]; exact HB1.out))).mono ?_
  rintro e w2 ⟨v, rfl, hov, hb2⟩
  obtain ⟨Au, cu, rfl, _⟩ := Sl.of_own hov
  have hb1s : b0 ≤ W1.heap.size := Nat.le_of_lt (Blk.lt HO1.out)
  obtain ⟨T8, hT8⟩ : ∃ T8, w2.heap.size = T8 := ⟨_, rfl⟩
  obtain ⟨w3, hw3⟩ : ∃ w3, w2.alloc (.cells #[.int .u64 r, .int .u64 a, .int .u64 b, .int .i64 p, .int .i64 s, .slice Au m cu] 33) = w3 := ⟨_, rfl⟩
  have hb3 : Below W1.heap.size W1 w3 := by rw [← hw3]; exact bel_trans hb2 (bel_alloc _ _)
  have HO3 := Lib.hid (Blk.below HO1.out hb3 (Blk.lt HO1.out))
  have HT3 : Hid (Blk w3 T8 33 #[.int .u64 r, .int .u64 a, .int .u64 b, .int .i64 p, .int .i64 s, .slice Au m cu]) := Lib.hid (by rw [← hw3, ← hT8]; exact Blk.new w2 _ _)
  have HU3 : Hid (OwnB w3 b0 (.slice Au m cu) m (u8s d)) := Lib.hid (by rw [← hw3]; exact own_mono (World.ownsRow.alloc hov _) hb1s)
  have HB3 : Hid (Below b0 wr w3) := Lib.hid (HB1.out.trans (hb3.mono hb1s))
  have HW3 : Hid (w2.alloc (.cells #[.int .u64 r, .int .u64 a, .int .u64 b, .int .i64 p, .int .i64 s, .slice Au m cu] 33) = w3 ∧ w2.heap.size = T8 ∧ b0 ≤ T8) := Lib.hid ⟨hw3, hT8, by rw [← hT8]; exact Nat.le_trans hb1s hb2.size⟩
  clear hov hb2 hb1s hT8 hw3 hb3
  go_upto_region 2 with fail
  rw [HW3.out.1, HW3.out.2.1]
  have o0 := HO3.out.cell 0
  have o1 := HO3.out.cell 1
  go_wp2_with fail
  go_ret2
  exact ⟨rfl, by rw [HBZ.out]; exact HB3.out⟩
end
end Go.Proofs.Ytakpkmjkbfdgiaa.Mem
/- PagePlays: its walk with nil pages. -/
namespace Go.Proofs.Ytakpkmjkbfdgiaa.Mem
open Go.RowKit Go.Proofs.Ytakpkmjkbfdgiaa.Nums
set_option linter.unusedVariables false
set_option linter.unusedSimpArgs false
set_option maxRecDepth 100000
set_option maxHeartbeats 40000000
theorem do_full {w wr : World} {P R st : Nat} {L : SL} (h : Duo w wr P R L st) (hE : Ends L) (o : Op5) (hok : o.ok wr) :
    Calls Try.prog 17 #[.pointer (some ⟨P, 0, none⟩), .pointer (some ⟨R, 0, none⟩), .agg #[.int .u8 o.z, .int .i64 o.i, .int .u64 o.r, .int .u64 o.a, .int .u64 o.b, .int .i64 o.p, .int .i64 o.s, .slice o.A o.n o.c]] wr fun e w' => ∃ P' L' st', e = .returned (.tuple #[.pointer (some ⟨P', 0, none⟩), .bool true]) ∧ Duo w w' P' R L' st' ∧ Ends L' := by
  have e : Int.tmod o.z 8 = o.z % 8 := Int.tmod_eq_emod_of_nonneg hok.z.1
  by_cases h4 : o.z % 8 = 4
  · exact (do_stampE h hE o.z o.i o.r o.a o.b o.p o.s o.x hok.len hok.sl hok.r hok.a hok.b hok.z (by rw [e]; exact h4)).mono fun e w' ⟨h1, L', st', h2⟩ => ⟨P, L', st', h1, h2⟩
  · by_cases h5 : o.z % 8 = 5
    · exact (do_free5E h hE o.z o.i o.r o.a o.b o.p o.s o.x hok.len hok.sl hok.r hok.a hok.b hok.z (by rw [e]; exact h5)).mono fun e w' ⟨h1, L', st', h2⟩ => ⟨P, L', st', h1, h2⟩
    · by_cases h6 : o.z % 8 = 6
      · exact (do_free6E h hE o.z o.i o.r o.a o.b o.p o.s o.x hok.len hok.sl hok.r hok.a hok.b hok.z (by rw [e]; exact h6)).mono fun e w' ⟨h1, L', st', h2⟩ => ⟨P, L', st', h1, h2⟩
      · by_cases h7 : o.z % 8 = 7
        · exact (do_sevenE h hE o.z o.i o.r o.a o.b o.p o.s o.x hok.len hok.sl hok.r hok.a hok.b hok.z (by rw [e]; exact h7)).mono fun e w' ⟨Q, h1, h2⟩ => ⟨Q, L, st, h1, h2, hE⟩
        · exact (do_insE h hE o.z o.i o.r o.a o.b o.p o.s o.x hok.len hok.sl hok.r hok.a hok.b hok.z h4 h5 h6 h7).mono fun e w' ⟨h1, L', st', h2⟩ => ⟨P, L', st', h1, h2⟩
theorem do_nil {wr : World} (o : Op5) (hok : o.ok wr) :
    Calls Try.prog 17 #[.pointer none, .pointer none, .agg #[.int .u8 o.z, .int .i64 o.i, .int .u64 o.r, .int .u64 o.a, .int .u64 o.b, .int .i64 o.p, .int .i64 o.s, .slice o.A o.n o.c]] wr fun e w' => e = .returned (.tuple #[.pointer none, .bool true]) ∧ Below wr.heap.size wr w' := by
  have e : Int.tmod o.z 8 = o.z % 8 := Int.tmod_eq_emod_of_nonneg hok.z.1
  by_cases h4 : o.z % 8 = 4
  · exact do_nil_stamp o.z o.i o.r o.a o.b o.p o.s o.x hok.len hok.sl hok.r hok.a hok.b hok.z (by rw [e]; exact h4)
  · by_cases h5 : o.z % 8 = 5
    · exact do_nil_free5 o.z o.i o.r o.a o.b o.p o.s o.x hok.len hok.sl hok.r hok.a hok.b hok.z (by rw [e]; exact h5)
    · by_cases h6 : o.z % 8 = 6
      · exact do_nil_free6 o.z o.i o.r o.a o.b o.p o.s o.x hok.len hok.sl hok.r hok.a hok.b hok.z (by rw [e]; exact h6)
      · by_cases h7 : o.z % 8 = 7
        · exact do_nil_seven o.z o.i o.r o.a o.b o.p o.s o.x hok.len hok.sl hok.r hok.a hok.b hok.z (by rw [e]; exact h7)
        · exact do_nil_ins o.z o.i o.r o.a o.b o.p o.s o.x hok.len hok.sl hok.r hok.a hok.b hok.z h4 h5 h6 h7
/-- page and reference, for the time that both are only looked at -/
structure Tri (w wl : World) (P R : Nat) (F : Nat → Prop) (E : List Ent) (st : Nat) (A : Option Addr) (c : Nat) : Prop where
  hp : Hp wl P (E.map Prod.fst) st
  rf : RfA wl F R E st A c
  bel : Below w.heap.size w wl
theorem Tri.below {w wl w' : World} {P R : Nat} {F : Nat → Prop} {E : List Ent} {st : Nat} {A : Option Addr} {c : Nat} (h : Tri w wl P R F E st A c) (hb : Below wl.heap.size wl w') : Tri w w' P R F E st A c :=
  ⟨h.hp.below hb h.hp.lt, h.rf.below hb, h.bel.trans (hb.mono h.bel.size)⟩
theorem bel_drewN (w : World) (m : Nat) : Below w.heap.size w (w.drewN m) := ⟨rfl, rfl, rfl, Nat.le_refl _, fun _ _ => rfl⟩
theorem plays_true (w : World) (l : List Op5) (A : Option Addr) (n c : Nat) (hl : l.length = n) (hs : Sl w w.heap.size 8 A n c (ops5 l)) (hok : ∀ o ∈ l, o.ok w) :
    Calls Try.prog 3 #[.bool true, .slice A n c] w fun e w' => e = .returned (.bool true) ∧ Below w.heap.size w w' := by
  have hcap := hs.cap
  have hle := hs.le
  unfold maxLen at hcap
  have HS := Lib.hid hs
  have HL := Lib.hid hl
  have HOK := Lib.hid hok
  clear hs hl hok
  go_enter Try.func3, Try.ntmps3
  go_wp2_with fail
  refine (awake5 _).mono ?_
  rintro e w0 ⟨rfl, hb0⟩
  have HB0 := Lib.hid hb0
  clear hb0
  go_wp2_with fail
  refine (new_has w0).mono ?_
  rintro e w1 ⟨rfl, hp1, hb1⟩
  go_wp2_with fail
  refine (rnew_any w1).mono ?_
  rintro e w2 ⟨rfl, hr2, hb2⟩
  have HB2 : Hid (Below w.heap.size w w2) := Lib.hid (bel_trans HB0.out (bel_trans hb1 hb2))
  clear hp1 hb1 hr2 hb2 HB0
  go_wp2_with fail
  go_loopw [5, 24] (fun pv i wl => ∃ k : Nat, k ≤ n ∧ pv = .pointer none ∧ i = .int .i64 k ∧ Below w.heap.size w wl) (fun _ i _ => n - (intOf i).toNat)
  case atStart => exact ⟨0, by omega, rfl, rfl, HB2.out⟩
  case round =>
    obtain ⟨k, hk, rfl, rfl, hb⟩ := hrel
    have HK := Lib.hid hb
    clear hb HB2
    by_cases hlt : k < n
    · have hlt' : (k : Int) < n := by omega
      obtain ⟨o, ho⟩ : ∃ o, l[k]? = some o := ⟨_, List.getElem?_eq_getElem (by rw [HL.out]; exact hlt)⟩
      have hokw := (HOK.out o (List.mem_of_getElem? ho)).below HK.out
      have HOW := Lib.hid hokw
      obtain ⟨ad, rfl, y0, y1, y2, y3, y4, y5, y6, y7⟩ := op5_cells HS.out HK.out ho HL.out
      obtain ⟨W, hW⟩ : ∃ W, wr.alloc (.cells #[.int .u8 o.z, .int .i64 o.i, .int .u64 o.r, .int .u64 o.a, .int .u64 o.b, .int .i64 o.p, .int .i64 o.s, .slice o.A o.n o.c] 35) = W := ⟨_, rfl⟩
      have HB := Lib.hid (bel_alloc wr (.cells #[.int .u8 o.z, .int .i64 o.i, .int .u64 o.r, .int .u64 o.a, .int .u64 o.b, .int .i64 o.p, .int .i64 o.s, .slice o.A o.n o.c] 35))
      rw [hW] at HB
      have HW := Lib.hid hW
      clear hW ho hokw
      by_cases h40 : k < 40
      · have h40' : ¬ (40 : Int) ≤ (k : Int) := by omega
        go_wp2_with fail
        rw [HW.out]
        refine (do_nil o (HOW.out.below HB.out)).mono ?_
        rintro e w5 ⟨rfl, hb5⟩
        have HB5 : Hid (Below w.heap.size w w5) := Lib.hid (HK.out.trans ((bel_trans HB.out hb5).mono HK.out.size))
        clear hb5 y0 y1 y2 y3 y4 y5 y6 y7
        go_wp2_with fail
        refine (bytes_nil w5).mono ?_
        rintro e w6 ⟨rfl, rfl⟩
        go_wp2_with fail
        refine (rbytes_nil w5).mono ?_
        rintro e w6 ⟨rfl, rfl⟩
        have hnil : Sl w5 w5.heap.size 1 none 0 0 (u8s []) := ⟨rfl, Nat.le_refl _, by unfold maxLen; omega, fun _ => rfl, fun h => absurd h (by omega)⟩
        have CS := Lib.hid (same_any [] [] none 0 0 none 0 0 w5 hnil hnil)
        rw [decide_eq_true rfl] at CS
        clear hnil
        go_wp2_with fail
        refine CS.out.mono ?_
        rintro e w8 ⟨rfl, rfl⟩
        clear CS
        go_wp2_with fail
        refine (room_nil w5).mono ?_
        rintro e w6 ⟨rfl, rfl⟩
        go_wp2_with fail
        refine (rroom_nil w5).mono ?_
        rintro e w6 ⟨rfl, rfl⟩
        go_wp2_with fail
        refine (used_nil w5).mono ?_
        rintro e w6 ⟨rfl, rfl⟩
        go_wp2_with fail
        refine (rused_nil w5).mono ?_
        rintro e w6 ⟨rfl, rfl⟩
        go_wp2_with fail
        refine (slots_nil w5).mono ?_
        rintro e w6 ⟨rfl, rfl⟩
        go_wp2_with fail
        go_loopw [12] (fun iv wl => ∃ i : Int, -1 ≤ i ∧ i ≤ 1 ∧ iv = .int .i64 i ∧ Below w.heap.size w wl) (fun iv _ => 2 - (intOf iv + 1).toNat)
        case atStart => exact ⟨-1, by omega, by omega, rfl, HB5.out⟩
        case round =>
          obtain ⟨i, hi1, hi2, rfl, ht⟩ := hrel
          have HT := Lib.hid ht
          clear ht HB5
          by_cases hil : i ≤ 0
          · have CG := Lib.hid (get_nil i wr)
            unfold zeroT at CG
            go_wp2_with fail
            refine CG.out.mono ?_
            rintro e w7 ⟨rfl, hb7⟩
            obtain ⟨w8, hw8⟩ : ∃ w8, w7.alloc (.cells #[.int .u64 0, .int .u64 0, .int .u64 0, .int .i64 0, .int .i64 0, .slice none 0 0] 33) = w8 := ⟨_, rfl⟩
            obtain ⟨T1, hT1⟩ : ∃ T1, w7.heap.size = T1 := ⟨_, rfl⟩
            have HX : Hid (Blk w8 T1 33 #[.int .u64 0, .int .u64 0, .int .u64 0, .int .i64 0, .int .i64 0, .slice none 0 0]) := Lib.hid (by rw [← hw8, ← hT1]; exact Blk.new w7 _ _)
            have HAw8 : Hid (Below w7.heap.size w7 w8) := Lib.hid (by rw [← hw8]; exact bel_alloc _ _)
            have HEw8 := Lib.hid (And.intro hw8 hT1)
            clear hw8 hT1
            have HT8 := Lib.hid (bel_trans (bel_trans HT.out hb7) HAw8.out)
            clear hb7 CG
            go_upto_region 23 with fail
            rw [HEw8.out.1, HEw8.out.2]
            have CR := Lib.hid (rget_nil i w8)
            unfold zeroT at CR
            go_wp2_with fail
            refine CR.out.mono ?_
            rintro e w9 ⟨rfl, hb9⟩
            obtain ⟨w10, hw10⟩ : ∃ w10, w9.alloc (.cells #[.int .u64 0, .int .u64 0, .int .u64 0, .int .i64 0, .int .i64 0, .slice none 0 0] 33) = w10 := ⟨_, rfl⟩
            obtain ⟨T2, hT2⟩ : ∃ T2, w9.heap.size = T2 := ⟨_, rfl⟩
            have HY : Hid (Blk w10 T2 33 #[.int .u64 0, .int .u64 0, .int .u64 0, .int .i64 0, .int .i64 0, .slice none 0 0]) := Lib.hid (by rw [← hw10, ← hT2]; exact Blk.new w9 _ _)
            have HAw10 : Hid (Below w9.heap.size w9 w10) := Lib.hid (by rw [← hw10]; exact bel_alloc _ _)
            have HEw10 := Lib.hid (And.intro hw10 hT2)
            clear hw10 hT2
            have HT10 := Lib.hid (bel_trans (bel_trans HT8.out hb9) HAw10.out)
            have HX10 := Lib.hid (Blk.below HX.out (bel_trans hb9 HAw10.out) (Blk.lt HX.out))
            clear hb9 CR
            go_upto_region 24 with fail
            rw [HEw10.out.1, HEw10.out.2]
            have x0 := HX10.out.cell 0
            have x1 := HX10.out.cell 1
            have x2 := HX10.out.cell 2
            have x3 := HX10.out.cell 3
            have x4 := HX10.out.cell 4
            have x5 := HX10.out.cell 5
            have y0 := HY.out.cell 0
            have y1 := HY.out.cell 1
            have y2 := HY.out.cell 2
            have y3 := HY.out.cell 3
            have y4 := HY.out.cell 4
            have y5 := HY.out.cell 5
            go_wp2_with fail
            clear x0 x1 x2 x3 x4 x5 y0 y1 y2 y3 y4 y5
            refine (samet_yes 0 0 0 0 0 none none 0 0 0 0 [] w10 ⟨rfl, Nat.le_refl _, by unfold maxLen; omega, fun _ => rfl, fun h => absurd h (by omega)⟩ ⟨rfl, Nat.le_refl _, by unfold maxLen; omega, fun _ => rfl, fun h => absurd h (by omega)⟩).mono ?_
            rintro e w11 ⟨rfl, hb11⟩
            have HT11 := Lib.hid (bel_trans HT10.out hb11)
            clear hb11
            go_wp2_with fail
            go_roundw
            case rel => exact ⟨i + 1, by omega, by omega, by go_num, HT11.out⟩
            case measure => simp [intOf]; omega
          · have hil' : (0 : Int) < i := by omega
            go_wp2_with fail
            go_roundw
            case rel => exact ⟨k + 1, by omega, rfl, by go_num, HT.out⟩
            case measure => simp [intOf]; omega
      · have h40' : (40 : Int) ≤ (k : Int) := by omega
        go_wp2_with fail
        go_ret
        exact ⟨rfl, by first | exact HK.out.trans ((bel_alloc _ _).mono HK.out.size) | (rw [HW.out]; exact HK.out.trans (HB.out.mono HK.out.size))⟩
    · obtain rfl : k = n := by omega
      go_wp2_with fail
      go_ret
      exact ⟨rfl, HK.out⟩
end Go.Proofs.Ytakpkmjkbfdgiaa.Mem
/- PagePlays: its walk. -/
namespace Go.Proofs.Ytakpkmjkbfdgiaa.Mem
open Go.RowKit Go.Proofs.Ytakpkmjkbfdgiaa.Nums
set_option linter.unusedVariables false
set_option linter.unusedSimpArgs false
set_option maxRecDepth 100000
set_option maxHeartbeats 40000000
theorem plays_false (w : World) (l : List Op5) (A : Option Addr) (n c : Nat) (hl : l.length = n) (hs : Sl w w.heap.size 8 A n c (ops5 l)) (hok : ∀ o ∈ l, o.ok w) :
    Calls Try.prog 3 #[.bool false, .slice A n c] w fun e w' => e = .returned (.bool true) ∧ Below w.heap.size w w' := by
  have hcap := hs.cap
  have hle := hs.le
  unfold maxLen at hcap
  have HS := Lib.hid hs
  have HL := Lib.hid hl
  have HOK := Lib.hid hok
  clear hs hl hok
  go_enter Try.func3, Try.ntmps3
  go_wp2_with fail
  refine (awake5 _).mono ?_
  rintro e w0 ⟨rfl, hb0⟩
  have HB0 := Lib.hid hb0
  clear hb0
  go_wp2_with fail
  refine (new_has w0).mono ?_
  rintro e w1 ⟨rfl, hp1, hb1⟩
  go_wp2_with fail
  refine (rnew_any w1).mono ?_
  rintro e w2 ⟨rfl, hr2, hb2⟩
  have HD := Lib.hid (duo_new w w0 HB0.out w1 w2 hp1 hb1 hr2 hb2)
  obtain ⟨P, hP⟩ : ∃ P, w0.heap.size = P := ⟨_, rfl⟩
  obtain ⟨R, hR⟩ : ∃ R, w1.heap.size = R := ⟨_, rfl⟩
  rw [hP, hR] at HD
  rw [hP, hR]
  clear hp1 hb1 hr2 hb2 hP hR
  go_wp2_with fail
  go_loopw [5, 24] (fun pv i wl => ∃ (k P : Nat) (L : SL) (st : Nat), k ≤ n ∧ pv = .pointer (some ⟨P, 0, none⟩) ∧ i = .int .i64 k ∧ Duo w wl P R L st ∧ Ends L) (fun _ i _ => n - (intOf i).toNat)
  case atStart => exact ⟨0, P, [], 512, by omega, rfl, rfl, HD.out, Ends.nil⟩
  case round =>
    obtain ⟨k, P, L, st, hk, rfl, rfl, hd, hEnd⟩ := hrel
    have HK := Lib.hid hd
    have HEN := Lib.hid hEnd
    clear hd HD hEnd
    by_cases hlt : k < n
    · have hlt' : (k : Int) < n := by omega
      obtain ⟨o, ho⟩ : ∃ o, l[k]? = some o := ⟨_, List.getElem?_eq_getElem (by rw [HL.out]; exact hlt)⟩
      have hokw := (HOK.out o (List.mem_of_getElem? ho)).below HK.out.2.2.2
      have HOW := Lib.hid hokw
      obtain ⟨ad, rfl, y0, y1, y2, y3, y4, y5, y6, y7⟩ := op5_cells HS.out HK.out.2.2.2 ho HL.out
      obtain ⟨W, hW⟩ : ∃ W, wr.alloc (.cells #[.int .u8 o.z, .int .i64 o.i, .int .u64 o.r, .int .u64 o.a, .int .u64 o.b, .int .i64 o.p, .int .i64 o.s, .slice o.A o.n o.c] 35) = W := ⟨_, rfl⟩
      have HB := Lib.hid (bel_alloc wr (.cells #[.int .u8 o.z, .int .i64 o.i, .int .u64 o.r, .int .u64 o.a, .int .u64 o.b, .int .i64 o.p, .int .i64 o.s, .slice o.A o.n o.c] 35))
      rw [hW] at HB
      have HW := Lib.hid hW
      clear hW ho hokw
      by_cases h40 : k < 40
      · have h40' : ¬ (40 : Int) ≤ (k : Int) := by omega
        go_wp2_with fail
        rw [HW.out]
        refine (do_full (HK.out.below HB.out) HEN.out o (HOW.out.below HB.out)).mono ?_
        rintro e w5 ⟨P', L', st', rfl, hd5, hE5⟩
        obtain ⟨⟨X, hpg, hx⟩, ⟨F, E, Ar, cr, hE, hR, hFP, hFB⟩, hwP, hbel⟩ := hd5
        subst hE
        have HE5 := Lib.hid hE5
        have HX := Lib.hid hx
        have HPG := Lib.hid hpg
        have HF := Lib.hid (And.intro hFP (And.intro hFB hwP))
        have HT5 : Hid (Tri w w5 P' R F E st' Ar cr) := Lib.hid ⟨⟨X, hpg, hx⟩, hR, hbel⟩
        have HXL : X.length = 512 := hpg.2
        have HXL2 := Lib.hid HXL
        clear hE5 hx hpg hFP hFB hwP hR hbel HXL y0 y1 y2 y3 y4 y5 y6 y7
        go_wp2_with fail
        refine (bytes_pg P' X w5 HPG.out).mono ?_
        rintro e w6 ⟨u, rfl, hou, hb6⟩
        obtain ⟨Ab, cb, rfl, _⟩ := Sl.of_own hou
        have HOU := Lib.hid hou
        have HT6 := Lib.hid (HT5.out.below hb6)
        clear hou hb6
        go_wp2_with fail
        refine (rbytes_any HT6.out.rf HX.out).mono ?_
        rintro e w7 ⟨rfl, hbb, hb7⟩
        have HBO := Lib.hid (BB.own (B := w6.heap.size) hbb HXL2.out (by omega) (by omega) (Nat.le_refl _))
        have HOU7 := Lib.hid (own_keep HOU.out fun k hk => hb7.block k (HOU.out.lt k hk).2)
        have HT7 := Lib.hid (HT6.out.below hb7)
        clear hbb hb7
        have CS := Lib.hid (same_any X X Ab 512 cb (some ⟨w6.heap.size, 0, none⟩) 512 512 w7 (sl_own HOU7.out) (sl_own HBO.out))
        rw [decide_eq_true rfl] at CS
        go_wp2_with fail
        refine CS.out.mono ?_
        rintro e w8 ⟨rfl, rfl⟩
        clear CS
        go_wp2_with fail
        refine (room_has P' (E.map Prod.fst) st' w7 HT7.out.hp).mono ?_
        rintro e w8 ⟨rfl, m1, rfl⟩
        have HT8 := Lib.hid (HT7.out.below (bel_drewN w7 m1))
        have hsm := HT8.out.hp.small
        rw [List.length_map] at hsm
        have HSM := Lib.hid hsm
        have hEl : E.length ≤ 128 := by omega
        clear hsm
        go_wp2_with fail
        refine (rroom_any HT8.out.rf hEl HSM.out.2.2).mono ?_
        rintro e w9 ⟨rfl, hb9⟩
        have HT9 := Lib.hid (HT8.out.below hb9)
        clear hb9
        go_wp2_with fail
        refine (used_has P' (E.map Prod.fst) st' w9 HT9.out.hp).mono ?_
        rintro e w10 ⟨rfl, m2, rfl⟩
        have HT10 := Lib.hid (HT9.out.below (bel_drewN w9 m2))
        go_wp2_with fail
        refine (rused_any HT10.out.rf hEl).mono ?_
        rintro e w11 ⟨rfl, hb11⟩
        have HT11 := Lib.hid (HT10.out.below hb11)
        clear hb11
        have r0 := HT11.out.rf.blk.cell 0
        have CL := Lib.hid (slots_has P' (E.map Prod.fst) st' w11 HT11.out.hp)
        rw [List.length_map] at CL
        go_wp2_with fail
        refine CL.out.mono ?_
        rintro e w12 ⟨rfl, rfl⟩
        clear r0
        go_wp2_with fail
        go_loopw [12] (fun iv wl => ∃ i : Int, -1 ≤ i ∧ i ≤ E.length + 1 ∧ iv = .int .i64 i ∧ Tri w wl P' R F E st' Ar cr) (fun iv _ => E.length + 2 - (intOf iv + 1).toNat)
        case atStart => exact ⟨-1, by omega, by omega, rfl, HT11.out⟩
        case round =>
          obtain ⟨i, hi1, hi2, rfl, ht⟩ := hrel
          have HT := Lib.hid ht
          clear ht HT5 HT6 HT7 HT8 HT9 HT10 HT11 CL
          by_cases hil : i ≤ E.length
          · cases hat : atL (E.map Prod.fst) i with
            | none =>
              have CG := Lib.hid (get_has_none P' (E.map Prod.fst) st' i wr HT.out.hp hat)
              unfold zeroT at CG
              go_wp2_with fail
              refine CG.out.mono ?_
              rintro e w7 ⟨rfl, hb7⟩
              obtain ⟨w8, hw8⟩ : ∃ w8, w7.alloc (.cells #[.int .u64 0, .int .u64 0, .int .u64 0, .int .i64 0, .int .i64 0, .slice none 0 0] 33) = w8 := ⟨_, rfl⟩
              obtain ⟨T1, hT1⟩ : ∃ T1, w7.heap.size = T1 := ⟨_, rfl⟩
              have HX : Hid (Blk w8 T1 33 #[.int .u64 0, .int .u64 0, .int .u64 0, .int .i64 0, .int .i64 0, .slice none 0 0]) := Lib.hid (by rw [← hw8, ← hT1]; exact Blk.new w7 _ _)
              have HAw8 : Hid (Below w7.heap.size w7 w8) := Lib.hid (by rw [← hw8]; exact bel_alloc _ _)
              have HEw8 := Lib.hid (And.intro hw8 hT1)
              clear hw8 hT1
              have HT8 := Lib.hid ((HT.out.below hb7).below HAw8.out)
              clear hb7 CG
              go_upto_region 23 with fail
              rw [HEw8.out.1, HEw8.out.2]
              have CR := Lib.hid (rget_none HT8.out.rf i hat)
              unfold zeroT at CR
              go_wp2_with fail
              refine CR.out.mono ?_
              rintro e w9 ⟨rfl, hb9⟩
              obtain ⟨w10, hw10⟩ : ∃ w10, w9.alloc (.cells #[.int .u64 0, .int .u64 0, .int .u64 0, .int .i64 0, .int .i64 0, .slice none 0 0] 33) = w10 := ⟨_, rfl⟩
              obtain ⟨T2, hT2⟩ : ∃ T2, w9.heap.size = T2 := ⟨_, rfl⟩
              have HY : Hid (Blk w10 T2 33 #[.int .u64 0, .int .u64 0, .int .u64 0, .int .i64 0, .int .i64 0, .slice none 0 0]) := Lib.hid (by rw [← hw10, ← hT2]; exact Blk.new w9 _ _)
              have HAw10 : Hid (Below w9.heap.size w9 w10) := Lib.hid (by rw [← hw10]; exact bel_alloc _ _)
              have HEw10 := Lib.hid (And.intro hw10 hT2)
              clear hw10 hT2
              have HT10 := Lib.hid ((HT8.out.below hb9).below HAw10.out)
              have HX10 := Lib.hid (Blk.below HX.out (bel_trans hb9 HAw10.out) (Blk.lt HX.out))
              clear hb9 CR
              go_upto_region 24 with fail
              rw [HEw10.out.1, HEw10.out.2]
              have x0 := HX10.out.cell 0
              have x1 := HX10.out.cell 1
              have x2 := HX10.out.cell 2
              have x3 := HX10.out.cell 3
              have x4 := HX10.out.cell 4
              have x5 := HX10.out.cell 5
              have y0 := HY.out.cell 0
              have y1 := HY.out.cell 1
              have y2 := HY.out.cell 2
              have y3 := HY.out.cell 3
              have y4 := HY.out.cell 4
              have y5 := HY.out.cell 5
              go_wp2_with fail
              clear x0 x1 x2 x3 x4 x5 y0 y1 y2 y3 y4 y5
              refine (samet_yes 0 0 0 0 0 none none 0 0 0 0 [] w10 ⟨rfl, Nat.le_refl _, by unfold maxLen; omega, fun _ => rfl, fun h => absurd h (by omega)⟩ ⟨rfl, Nat.le_refl _, by unfold maxLen; omega, fun _ => rfl, fun h => absurd h (by omega)⟩).mono ?_
              rintro e w11 ⟨rfl, hb11⟩
              have HT11 := Lib.hid (HT10.out.below hb11)
              clear hb11
              go_wp2_with fail
              go_roundw
              case rel => exact ⟨i + 1, by omega, by omega, by go_num, HT11.out⟩
              case measure => simp [intOf]; omega
            | some y =>
              obtain ⟨v, f⟩ := y
              obtain ⟨s, hsi, hLs⟩ := atL_some hat
              have HSI := Lib.hid hsi
              obtain ⟨⟨o2, u2⟩, he⟩ : ∃ e, E[s]? = some e := ⟨_, List.getElem?_eq_getElem (by have := (List.getElem?_eq_some_iff.1 hLs).1; rwa [List.length_map] at this)⟩
              rw [map_at he] at hLs
              injection hLs with hLs
              subst hLs
              have CG := Lib.hid (get_has_some P' (E.map Prod.fst) st' i v f wr HT.out.hp hat)
              unfold tupV at CG
              obtain ⟨A2, c2, rfl, _⟩ := Sl.of_own (HT.out.rf.data s v f u2 he).1
              clear hat hsi
              go_wp2_with fail
              refine CG.out.mono ?_
              rintro e w7 ⟨ut, rfl, hot, hb7⟩
              obtain ⟨A1, c1, rfl, _⟩ := Sl.of_own hot
              obtain ⟨w8, hw8⟩ : ∃ w8, w7.alloc (.cells #[.int .u64 v.r, .int .u64 v.a, .int .u64 v.b, .int .i64 ((v.p : Int) - 1), .int .i64 ((v.s : Int) - 1), .slice A1 v.d.length c1] 33) = w8 := ⟨_, rfl⟩
              obtain ⟨T1, hT1⟩ : ∃ T1, w7.heap.size = T1 := ⟨_, rfl⟩
              have HX : Hid (Blk w8 T1 33 #[.int .u64 v.r, .int .u64 v.a, .int .u64 v.b, .int .i64 ((v.p : Int) - 1), .int .i64 ((v.s : Int) - 1), .slice A1 v.d.length c1]) := Lib.hid (by rw [← hw8, ← hT1]; exact Blk.new w7 _ _)
              have HAw8 : Hid (Below w7.heap.size w7 w8) := Lib.hid (by rw [← hw8]; exact bel_alloc _ _)
              have HEw8 := Lib.hid (And.intro hw8 hT1)
              clear hw8 hT1
              have HT8 := Lib.hid ((HT.out.below hb7).below HAw8.out)
              have HO8 : Hid (OwnB w8 wr.heap.size (.slice A1 v.d.length c1) v.d.length (u8s v.d)) := Lib.hid (own_keep hot fun k hk => HAw8.out.block k (hot.lt k hk).2)
              clear hb7 CG hot
              go_upto_region 23 with fail
              rw [HEw8.out.1, HEw8.out.2]
              have CR := Lib.hid (rget_some HT8.out.rf s v f _ he)
              unfold tupV at CR
              rw [← HSI.out] at CR
              go_wp2_with fail
              refine CR.out.mono ?_
              rintro e w9 ⟨rfl, hb9⟩
              obtain ⟨w10, hw10⟩ : ∃ w10, w9.alloc (.cells #[.int .u64 v.r, .int .u64 v.a, .int .u64 v.b, .int .i64 ((v.p : Int) - 1), .int .i64 ((v.s : Int) - 1), .slice A2 v.d.length c2] 33) = w10 := ⟨_, rfl⟩
              obtain ⟨T2, hT2⟩ : ∃ T2, w9.heap.size = T2 := ⟨_, rfl⟩
              have HY : Hid (Blk w10 T2 33 #[.int .u64 v.r, .int .u64 v.a, .int .u64 v.b, .int .i64 ((v.p : Int) - 1), .int .i64 ((v.s : Int) - 1), .slice A2 v.d.length c2]) := Lib.hid (by rw [← hw10, ← hT2]; exact Blk.new w9 _ _)
              have HAw10 : Hid (Below w9.heap.size w9 w10) := Lib.hid (by rw [← hw10]; exact bel_alloc _ _)
              have HEw10 := Lib.hid (And.intro hw10 hT2)
              clear hw10 hT2
              have HT10 := Lib.hid ((HT8.out.below hb9).below HAw10.out)
              have HX10 := Lib.hid (Blk.below HX.out (bel_trans hb9 HAw10.out) (Blk.lt HX.out))
              have HO10 : Hid (OwnB w10 wr.heap.size (.slice A1 v.d.length c1) v.d.length (u8s v.d)) := Lib.hid (own_keep HO8.out fun k hk => (bel_trans hb9 HAw10.out).block k (HO8.out.lt k hk).2)
              clear hb9 CR
              go_upto_region 24 with fail
              rw [HEw10.out.1, HEw10.out.2]
              have x0 := HX10.out.cell 0
              have x1 := HX10.out.cell 1
              have x2 := HX10.out.cell 2
              have x3 := HX10.out.cell 3
              have x4 := HX10.out.cell 4
              have x5 := HX10.out.cell 5
              have y0 := HY.out.cell 0
              have y1 := HY.out.cell 1
              have y2 := HY.out.cell 2
              have y3 := HY.out.cell 3
              have y4 := HY.out.cell 4
              have y5 := HY.out.cell 5
              go_wp2_with fail
              clear x0 x1 x2 x3 x4 x5 y0 y1 y2 y3 y4 y5
              refine (samet_yes v.r v.a v.b ((v.p : Int) - 1) ((v.s : Int) - 1) A1 A2 v.d.length c1 v.d.length c2 v.d w10 (sl_own HO10.out) (sl_own (HT10.out.rf.data s v f _ he).1)).mono ?_
              rintro e w11 ⟨rfl, hb11⟩
              have HT11 := Lib.hid (HT10.out.below hb11)
              clear hb11
              go_wp2_with fail
              go_roundw
              case rel => exact ⟨i + 1, by omega, by omega, by go_num, HT11.out⟩
              case measure => simp [intOf]; omega
          · have hil' : (E.length : Int) < i := by omega
            obtain ⟨hFP, hFB, hwP⟩ := HF.out
            have hD : Duo w wr P' R (E.map Prod.fst) st' := ⟨HT.out.hp, ⟨F, E, Ar, cr, rfl, HT.out.rf, hFP, hFB⟩, hwP, HT.out.bel⟩
            have HDD := Lib.hid hD
            clear hFP hFB hwP hD
            go_wp2_with fail
            go_roundw
            case rel => exact ⟨k + 1, P', _, st', by omega, rfl, by go_num, HDD.out, HE5.out⟩
            case measure => simp [intOf]; omega
      · have h40' : (40 : Int) ≤ (k : Int) := by omega
        go_wp2_with fail
        go_ret
        exact ⟨rfl, by first | exact (HK.out.below (bel_alloc _ _)).2.2.2 | (rw [HW.out]; exact (HK.out.below HB.out).2.2.2)⟩
    · obtain rfl : k = n := by omega
      go_wp2_with fail
      go_ret
      exact ⟨rfl, HK.out.2.2.2⟩
theorem plays_walk (w : World) (b : Bool) (l : List Op5) (A : Option Addr) (n c : Nat) (hl : l.length = n) (hs : Sl w w.heap.size 8 A n c (ops5 l)) (hok : ∀ o ∈ l, o.ok w) :
    Calls Try.prog 3 #[.bool b, .slice A n c] w fun e w' => e = .returned (.bool true) ∧ Below w.heap.size w w' := by
  cases b
  · exact plays_false w l A n c hl hs hok
  · exact plays_true w l A n c hl hs hok
end Go.Proofs.Ytakpkmjkbfdgiaa.Mem
