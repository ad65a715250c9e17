/- row.Fits. -/
import Derived.Test.YtfabcnbblhadnaaDoorRowA
namespace Go.Proofs.YtfabcnbblhadnaaDoor.Mem
open Go.RowKit Go.Proofs.YtfabcnbblhadnaaDoor.Nums
open Go.Proofs.YtfabcnbblhadnaaDoor.Cell (U8)
set_option linter.unusedVariables false
set_option linter.unusedSimpArgs false
set_option maxRecDepth 100000
attribute [local irreducible] wpQuiet
/-- is a value no Null, and of another kind than its column -/
def off1 (v : V) (k : UInt8) : Bool := !(v.k == 0) && !(v.k == (k.toNat : Int))
def offs (l : List V) (ks : List UInt8) : Bool := (l.zip ks).any fun p => off1 p.1 p.2
/-- what Fits tells -/
def fitsE (ks : List UInt8) (l : List V) : Int :=
  if ksOk ks && decide (l.length = ks.length) then (if l.all V.right then (if offs l ks then 8 else if 200 < rSize l then 2 else 0) else 3) else 1
theorem ksOk_len {ks : List UInt8} (h : ksOk ks = true) : 1 ≤ ks.length ∧ ks.length ≤ 8 := by
  unfold ksOk at h
  simp only [Bool.and_eq_true, decide_eq_true_eq] at h
  exact h.1
theorem offs_snoc {l : List V} {ks : List UInt8} {k : Nat} {v : V} {b : UInt8} (hv : l[k]? = some v) (hb : ks[k]? = some b) : offs (l.take (k + 1)) (ks.take (k + 1)) = (offs (l.take k) (ks.take k) || off1 v b) := by
  have h1 := (List.getElem?_eq_some_iff.1 hv).1
  have h2 := (List.getElem?_eq_some_iff.1 hb).1
  unfold offs
  rw [take_succ_of hv, take_succ_of hb, List.zip_append (by rw [List.length_take, List.length_take]; omega), List.any_append]
  simp
theorem offs_hit {l : List V} {ks : List UInt8} {k : Nat} {v : V} {b : UInt8} (hv : l[k]? = some v) (hb : ks[k]? = some b) (h : off1 v b = true) : offs l ks = true := by
  unfold offs
  rw [List.any_eq_true]
  refine ⟨(v, b), ?_, h⟩
  apply List.mem_of_getElem? (i := k)
  rw [List.getElem?_zip_eq_some]
  exact ⟨hv, hb⟩
theorem fits_any (ks : List UInt8) (l : List V) (A : Option Addr) (n c : Nat) (A' : Option Addr) (n' c' : Nat) (w : World) (hn : ks.length = n) (hl : l.length = n') (hk : Sl w w.heap.size 1 A n c (u8s ks)) (hx : Sl w w.heap.size 4 A' n' c' (vals l)) (hok : ∀ v ∈ l, v.ok) (hU : U8 w) :
    Calls Tryd.prog 35 #[.slice A n c, .slice A' n' c'] w fun e w' => e = .returned (.int .i64 (fitsE ks l)) ∧ Below w.heap.size w w' := by
  have HK := Lib.hid hk
  have HX := Lib.hid hx
  have HN := Lib.hid hn
  have HL := Lib.hid hl
  have HOK := Lib.hid hok
  have HU := Lib.hid hU
  have hcap := hx.cap
  have hcapk := hk.cap
  unfold maxLen at hcap hcapk
  have hle := hx.le
  have hlek := hk.le
  have C1 := Lib.hid (kinds_any ks A n c w hk)
  clear hk hx hn hl hok hU
  cases h1 : ksOk ks
  · have HR : Hid (fitsE ks l = 1) := Lib.hid (by unfold fitsE; rw [h1]; rfl)
    rw [h1] at C1
    clear h1
    go_enter Tryd.func35, Tryd.ntmps35
    go_wp2_with fail
    refine C1.out.mono ?_
    rintro e w1 ⟨rfl, rfl⟩
    go_wp2_with fail
    go_ret
    exact ⟨by rw [HR.out]; rfl, Below.refl _ _⟩
  have hk8 := ksOk_len h1
  rw [HN.out] at hk8
  by_cases hnn : n' = n
  rotate_left
  · have HR : Hid (fitsE ks l = 1) := Lib.hid (by unfold fitsE; rw [h1, decide_eq_false (by rw [HL.out, HN.out]; exact hnn)]; rfl)
    have hne : ((n' : Int) == (n : Int)) = false := by rw [beq_eq_false_iff_ne]; omega
    have hne2 : ¬ (n' : Int) = (n : Int) := by omega
    rw [h1] at C1
    clear h1 hnn
    go_enter Tryd.func35, Tryd.ntmps35
    go_wp2_with fail
    refine C1.out.mono ?_
    rintro e w1 ⟨rfl, rfl⟩
    go_wp2_with fail
    go_ret
    exact ⟨by rw [HR.out]; rfl, Below.refl _ _⟩
  subst hnn
  have HR : Hid (fitsE ks l = (if l.all V.right then (if offs l ks then 8 else if 200 < rSize l then 2 else 0) else 3)) := Lib.hid (by unfold fitsE; rw [h1, decide_eq_true (by rw [HL.out, HN.out])]; rfl)
  rw [h1] at C1
  clear h1
  go_enter Tryd.func35, Tryd.ntmps35
  go_wp2_with fail
  refine C1.out.mono ?_
  rintro e w1 ⟨rfl, rfl⟩
  clear C1
  go_wp2_with fail
  go_loopw [21] (fun i wr => ∃ k : Nat, k ≤ n' ∧ i = .int .i64 k ∧ (l.take k).all V.right = true ∧ Below w.heap.size w wr) (fun i _ => n' - (intOf i).toNat)
  case atStart => exact ⟨0, by omega, rfl, rfl, Below.refl _ _⟩
  case round =>
    obtain ⟨k, hk, rfl, hall, hbr⟩ := hrel
    have HA := Lib.hid hall
    have HBR := Lib.hid hbr
    clear hall hbr
    by_cases hlt : k < n'
    · have hlt' : (k : Int) < n' := by omega
      obtain ⟨v, hv⟩ : ∃ v, l[k]? = some v := ⟨_, List.getElem?_eq_getElem (by rw [HL.out]; exact hlt)⟩
      obtain ⟨ad, hA, hAt⟩ := HX.out.at_ (by omega)
      subst hA
      obtain ⟨x0, x1, x2, x3⟩ := (hAt.below HBR.out).val hv
      have HV := Lib.hid hv
      have HC := Lib.hid (Cell.cright_all v.k v.i v.s v.b (HOK.out v (List.mem_of_getElem? hv)).2 _ ((HU.out.below HBR.out).below (Cell.bel_alloc wr (.cells #[.int .u8 v.k, .int .i64 v.i, .string v.s, .bool v.b] 43))))
      clear hv hAt
      cases hrv : Cell.rightB v.k v.i v.s v.b
      · rw [hrv] at HC
        have HF : Hid (l.all V.right = false) := Lib.hid (by
          rw [List.all_eq_false]
          exact ⟨v, List.mem_of_getElem? HV.out, by show ¬ Cell.rightB v.k v.i v.s v.b = true; rw [hrv]; exact Bool.false_ne_true⟩)
        clear hrv
        go_wp2_with fail
        refine HC.out.mono ?_
        rintro e w3 ⟨rfl, hb3⟩
        have HB3 := Lib.hid hb3
        clear hb3 x0 x1 x2 x3
        go_wp2_with fail
        go_ret
        exact ⟨by rw [HR.out, HF.out]; rfl, Cell.bel_trans (Cell.bel_trans HBR.out (Cell.bel_alloc _ _)) HB3.out⟩
      · rw [hrv] at HC
        have HRV : Hid (v.right = true) := Lib.hid hrv
        clear hrv
        go_wp2_with fail
        refine HC.out.mono ?_
        rintro e w3 ⟨rfl, hb3⟩
        have HB3 := Lib.hid hb3
        clear hb3 x0 x1 x2 x3
        go_wp2_with fail
        go_roundw
        case rel => exact ⟨k + 1, by omega, by go_num, by rw [take_succ_of HV.out, List.all_append, HA.out]; simp [HRV.out], Cell.bel_trans (Cell.bel_trans HBR.out (Cell.bel_alloc _ _)) HB3.out⟩
        case measure => simp [intOf]; omega
    · obtain rfl : k = n' := by omega
      have ht : l.take k = l := List.take_of_length_le (by rw [HL.out]; omega)
      rw [ht] at HA
      have hR2 := HR.out
      rw [HA.out, if_pos rfl] at hR2
      have HR2 := Lib.hid hR2
      have hs0 := HBR.out.size
      obtain ⟨wo, hwo⟩ : ∃ wo : World, wo = wr := ⟨_, rfl⟩
      rw [← hwo] at HBR hs0 ⊢
      clear ht hwo hR2 HR
      go_wp2_with fail
      go_loopw [31] (fun i w2 => ∃ j : Nat, j ≤ k ∧ i = .int .i64 j ∧ offs (l.take j) (ks.take j) = false ∧ Below wo.heap.size wo w2) (fun i _ => k - (intOf i).toNat)
      case atStart => exact ⟨0, by omega, rfl, rfl, Below.refl _ _⟩
      case round =>
        obtain ⟨j, hj, rfl, hoff, hb2⟩ := hrel
        have HOF := Lib.hid hoff
        have HB2 := Lib.hid (Cell.bel_trans HBR.out hb2)
        have HB2' := Lib.hid hb2
        clear hoff hb2
        by_cases hjt : j < k
        · have hjt' : (j : Int) < k := by omega
          have hj0 : (0 : Int) ≤ (j : Int) := Int.natCast_nonneg _
          obtain ⟨v, hv⟩ : ∃ v, l[j]? = some v := ⟨_, List.getElem?_eq_getElem (by rw [HL.out]; exact hjt)⟩
          obtain ⟨b, hb⟩ : ∃ b, ks[j]? = some b := ⟨_, List.getElem?_eq_getElem (by rw [HN.out]; exact hjt)⟩
          obtain ⟨ad, hA, hAt⟩ := HX.out.at_ (by omega)
          obtain ⟨ad', hA', hAt'⟩ := HK.out.at_ (by omega)
          subst hA hA'
          obtain ⟨W, hW⟩ : ∃ W, wr.alloc (.cells #[.int .u8 v.k, .int .i64 v.i, .string v.s, .bool v.b] 43) = W := ⟨_, rfl⟩
          have HBX : Hid (ValAt W ⟨wr.heap.size, 0, none⟩ v) := Lib.hid (by rw [← hW]; exact ValAt.new wr v _)
          have HBW : Hid (Below wr.heap.size wr W) := Lib.hid (by rw [← hW]; exact Cell.bel_alloc _ _)
          have HKX : Hid (W.cell? (ad'.add j) = some (.int .u8 (b.toNat : Int))) := Lib.hid (u8s_at (hAt'.below (Cell.bel_trans HB2.out HBW.out)) hb)
          have HW := Lib.hid hW
          obtain ⟨x0, x1, x2, x3⟩ := (hAt.below HB2.out).val hv
          have HO1 : Hid (offs (l.take (j + 1)) (ks.take (j + 1)) = (offs (l.take j) (ks.take j) || off1 v b)) := Lib.hid (offs_snoc hv hb)
          have HO2 : Hid (off1 v b = true → offs l ks = true) := Lib.hid (offs_hit hv hb)
          have HO3 : Hid (off1 v b = (!(v.k == 0) && !(v.k == (b.toNat : Int)))) := Lib.hid rfl
          clear hv hb hAt hAt' hW
          cases hv0 : (v.k == 0)
          · cases hvb : (v.k == (b.toNat : Int))
            · have hof : off1 v b = true := by rw [HO3.out, hv0, hvb]; rfl
              have hn0 : (v.k != 0) = true := by rw [bne, hv0]; rfl
              have hnb : (v.k != (b.toNat : Int)) = true := by rw [bne, hvb]; rfl
              have HF := Lib.hid (HO2.out hof)
              clear hof HO1 HO2 HO3
              go_wp2_with fail
              rw [HW.out]
              clear x0 x1 x2 x3
              have y0 := cell_regrown HBX.out.c0
              have y4 := cell_regrown HKX.out
              refine wp_region_quiet_below (by kernel_rfl) (by kernel_rfl) ?_
              repeat (quiet_step (first | fail))
              refine wpQuiet_nil ?_
              intro _ hw'
              obtain ⟨⟨dq, osq⟩, hw''⟩ := hw'
              subst hw''
              have HBQ := Lib.hid (below_regrown W dq osq)
              clear y0 y4
              generalize Go.Sort.grow (redrawn W dq) osq = w6 at *
              go_wp2_with fail
              go_ret
              exact ⟨by rw [HR2.out, HF.out]; rfl, Cell.bel_trans HB2.out (Cell.bel_trans HBW.out HBQ.out)⟩
            · have hof : off1 v b = false := by rw [HO3.out, hv0, hvb]; rfl
              have hn0 : (v.k != 0) = true := by rw [bne, hv0]; rfl
              have hnb : (v.k != (b.toNat : Int)) = false := by rw [bne, hvb]; rfl
              have HF := Lib.hid hof
              clear hof HO2 HO3
              go_wp2_with fail
              rw [HW.out]
              clear x0 x1 x2 x3
              have y0 := cell_regrown HBX.out.c0
              have y4 := cell_regrown HKX.out
              refine wp_region_quiet_below (by kernel_rfl) (by kernel_rfl) ?_
              repeat (quiet_step (first | fail))
              refine wpQuiet_nil ?_
              intro _ hw'
              obtain ⟨⟨dq, osq⟩, hw''⟩ := hw'
              subst hw''
              have HBQ := Lib.hid (below_regrown W dq osq)
              clear y0 y4
              generalize Go.Sort.grow (redrawn W dq) osq = w6 at *
              go_wp2_with fail
              go_roundw
              case rel => exact ⟨j + 1, by omega, by go_num, by rw [HO1.out, HOF.out, HF.out]; rfl, Cell.bel_trans HB2'.out (Cell.bel_trans HBW.out HBQ.out)⟩
              case measure => simp [intOf]; omega
          · have hof : off1 v b = false := by rw [HO3.out, hv0]; rfl
            have hn0 : (v.k != 0) = false := by rw [bne, hv0]; rfl
            have HF := Lib.hid hof
            clear hof HO2 HO3
            go_wp2_with fail
            rw [HW.out]
            clear x0 x1 x2 x3
            have y0 := cell_regrown HBX.out.c0
            have y4 := cell_regrown HKX.out
            refine wp_region_quiet_below (by kernel_rfl) (by kernel_rfl) ?_
            repeat (quiet_step (first | fail))
            refine wpQuiet_nil ?_
            intro _ hw'
            obtain ⟨⟨dq, osq⟩, hw''⟩ := hw'
            subst hw''
            have HBQ := Lib.hid (below_regrown W dq osq)
            clear y0 y4
            generalize Go.Sort.grow (redrawn W dq) osq = w6 at *
            go_wp2_with fail
            go_roundw
            case rel => exact ⟨j + 1, by omega, by go_num, by rw [HO1.out, HOF.out, HF.out]; rfl, Cell.bel_trans HB2'.out (Cell.bel_trans HBW.out HBQ.out)⟩
            case measure => simp [intOf]; omega
        · obtain rfl : j = k := by omega
          have h1 : l.take j = l := List.take_of_length_le (by rw [HL.out]; omega)
          have h2 : ks.take j = ks := List.take_of_length_le (by rw [HN.out]; omega)
          rw [h1, h2] at HOF
          have hR3 := HR2.out
          rw [HOF.out, if_neg (by decide)] at hR3
          have HR3 := Lib.hid hR3
          clear h1 h2 hR3 HR2
          go_wp2_with fail
          refine (size_any l A' j c' _ HL.out (by omega) HA.out (HX.out.on HB2.out)).mono ?_
          rintro e w5 ⟨rfl, hb5⟩
          have HB5 := Lib.hid hb5
          clear hb5
          by_cases h200 : 200 < rSize l
          · have h200' : (200 : Int) < ((rSize l : Nat) : Int) := by omega
            have HR4 : Hid (fitsE ks l = 2) := Lib.hid (by rw [HR3.out, if_pos h200])
            generalize rSize l = Z at h200' ⊢
            clear HR3 h200
            go_wp2_with fail
            go_ret
            exact ⟨by rw [HR4.out]; rfl, Cell.bel_trans HB2.out HB5.out⟩
          · have h200' : ¬ (200 : Int) < ((rSize l : Nat) : Int) := by omega
            have HR4 : Hid (fitsE ks l = 0) := Lib.hid (by rw [HR3.out, if_neg h200])
            generalize rSize l = Z at h200' ⊢
            clear HR3 h200
            go_wp2_with fail
            go_ret
            exact ⟨by rw [HR4.out]; rfl, Cell.bel_trans HB2.out HB5.out⟩
end Go.Proofs.YtfabcnbblhadnaaDoor.Mem
