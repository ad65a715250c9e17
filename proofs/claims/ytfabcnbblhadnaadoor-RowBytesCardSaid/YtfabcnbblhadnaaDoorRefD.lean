/- ref04.Bytes. -/
import Derived.Test.YtfabcnbblhadnaaDoorRefC
import Derived.Test.YtfabcnbblhadnaaDoorLJoins
namespace Go.Proofs.YtfabcnbblhadnaaDoor.Mem
open Go.RowKit Go.Proofs.YtfabcnbblhadnaaDoor.Nums
open Go.Proofs.YtfabcnbblhadnaaDoor.Cell (U8 right_exact)
set_option linter.unusedVariables false
set_option linter.unusedSimpArgs false
set_option maxRecDepth 100000
theorem leU_at (U j : Nat) (hj : j < 8) : (leU U).take (j + 1) = (leU U).take j ++ [UInt8.ofNat (U / 256 ^ j)] := by
  rw [leU_take U j hj, show (256 : Nat) = 2 ^ 8 by rfl, ← Nat.pow_mul]
theorem rt_no {ks : List UInt8} {l : List V} {E : Int} (h : fitsE ks l = E) (hE : E ≠ 0) {w w' : World} (hb : Below w.heap.size w w') : RTold ks l w (.returned (.tuple #[.slice none 0 0, .int .i64 E])) w' := by
  subst h
  exact ⟨hb, .inr ⟨hE, rfl⟩⟩
set_option maxHeartbeats 4000000 in
theorem refbytes4_any (ks : List UInt8) (l : List V) (A : Option Addr) (n c : Nat) (A' : Option Addr) (n' c' : Nat) (w : World) (hn : ks.length = n) (hl : l.length = n') (hk : Sl w w.heap.size 1 A n c (u8s ks)) (hx : Sl w w.heap.size 4 A' n' c' (vals l)) (hok : ∀ v ∈ l, v.ok) :
    Calls Tryd.prog 34 #[.slice A n c, .slice A' n' c'] w (RTold ks l w) := by
  have HX := Lib.hid hx
  have HK := Lib.hid hk
  have HL := Lib.hid hl
  have HN := Lib.hid hn
  have HOK := Lib.hid hok
  have hcap := hx.cap
  have hcapk := hk.cap
  unfold maxLen at hcap hcapk
  have hle := hx.le
  have hlek := hk.le
  have C1 := Lib.hid (refkinds_any ks A n c w hk)
  clear hk hx hn hl hok
  cases h1 : ksOk ks
  · have HR : Hid (fitsE ks l = 1) := Lib.hid (by unfold fitsE; rw [h1]; rfl)
    rw [h1] at C1
    clear h1
    go_enter Tryd.func34, Tryd.ntmps34
    go_wp2_with fail
    refine C1.out.mono ?_
    rintro e w1 ⟨rfl, rfl⟩
    go_wp2_with fail
    go_ret2
    exact rt_no HR.out (by decide) (Below.refl _ _)
  have hk8 := ksOk_len h1
  rw [HN.out] at hk8
  obtain ⟨hk1, hk8⟩ := hk8
  by_cases hnn : n' = n
  rotate_left
  · have HR : Hid (fitsE ks l = 1) := Lib.hid (by unfold fitsE; rw [h1, decide_eq_false (by rw [HL.out, HN.out]; exact hnn)]; rfl)
    have hne : ((n : Int) == (n' : Int)) = false := by rw [beq_eq_false_iff_ne]; omega
    have hne1 : ((n : Int) != (n' : Int)) = true := by rw [bne_iff_ne]; omega
    have hne2 : ¬ (n : Int) = (n' : Int) := by omega
    rw [h1] at C1
    clear h1 hnn
    go_enter Tryd.func34, Tryd.ntmps34
    go_wp2_with fail
    refine C1.out.mono ?_
    rintro e w1 ⟨rfl, rfl⟩
    go_wp2_with fail
    go_ret2
    exact rt_no HR.out (by decide) (Below.refl _ _)
  subst hnn
  have HR : Hid (fitsE ks l = (if l.all V.right then (if offs l ks then 8 else if 200 < rSize l then 2 else 0) else 3)) := Lib.hid (by unfold fitsE; rw [h1, decide_eq_true (by rw [HL.out, HN.out])]; rfl)
  rw [h1] at C1
  clear h1
  go_enter Tryd.func34, Tryd.ntmps34
  go_wp2_with fail
  refine C1.out.mono ?_
  rintro e w1 ⟨rfl, rfl⟩
  clear C1
  go_wp2_with fail
  go_loopw [26] (fun i wr => ∃ k : Nat, k ≤ n' ∧ i = .int .i64 k ∧ (l.take k).all V.right = true ∧ Below w.heap.size w wr) (fun i _ => n' - (intOf i).toNat)
  case atStart => exact ⟨0, by omega, rfl, rfl, Below.refl _ _⟩
  case round =>
    obtain ⟨k, hk, rfl, hall, hbr⟩ := hrel
    have HA := Lib.hid hall
    have HBR := Lib.hid hbr
    clear hall hbr
    by_cases hlt : k < n'
    · have hlt' : (k : Int) < n' := by omega
      obtain ⟨⟨vk, vi, vs, vb⟩, hv⟩ : ∃ v, l[k]? = some v := ⟨_, List.getElem?_eq_getElem (by rw [HL.out]; exact hlt)⟩
      obtain ⟨ad, hA, hAt⟩ := HX.out.at_ (by omega)
      subst hA
      obtain ⟨x0, x1, x2, x3⟩ := (hAt.below HBR.out).val hv
      dsimp only at x0 x1 x2 x3
      have HV := Lib.hid hv
      have HC := Lib.hid (right_exact vk vi vs vb (HOK.out _ (List.mem_of_getElem? hv)).2 (wr.alloc (.cells #[.int .u8 vk, .int .i64 vi, .string vs, .bool vb] 43)))
      clear hv hAt
      cases hrv : Cell.rightB vk vi vs vb
      · rw [hrv] at HC
        have HF : Hid (l.all V.right = false) := Lib.hid (by
          rw [List.all_eq_false]
          exact ⟨_, List.mem_of_getElem? HV.out, by show ¬ Cell.rightB vk vi vs vb = true; rw [hrv]; exact Bool.false_ne_true⟩)
        clear hrv
        go_wp2_with fail
        refine HC.out.mono ?_
        rintro e w3 ⟨rfl, hb3⟩
        have HB3 := Lib.hid hb3
        clear hb3 x0 x1 x2 x3
        go_wp2_with fail
        go_ret2
        exact rt_no (by rw [HR.out, HF.out]; rfl) (by decide) (Cell.bel_trans (Cell.bel_trans HBR.out (Cell.bel_alloc _ _)) HB3.out)
      · rw [hrv] at HC
        have HRV : Hid ((l.take (k + 1)).all V.right = true) := Lib.hid (by
          rw [take_succ_of HV.out, List.all_append, HA.out]
          show (true && (Cell.rightB vk vi vs vb && true)) = true
          rw [hrv]
          rfl)
        clear hrv
        go_wp2_with fail
        refine HC.out.mono ?_
        rintro e w3 ⟨rfl, hb3⟩
        have HB3 := Lib.hid hb3
        clear hb3 x0 x1 x2 x3
        go_wp2_with fail
        go_roundw
        case rel => exact ⟨k + 1, by omega, by go_num, HRV.out, Cell.bel_trans (Cell.bel_trans HBR.out (Cell.bel_alloc _ _)) HB3.out⟩
        case measure => simp [intOf]; omega
    · obtain rfl : k = n' := by omega
      have ht : l.take k = l := List.take_of_length_le (by rw [HL.out]; omega)
      rw [ht] at HA
      have HR2 : Hid (fitsE ks l = (if offs l ks then 8 else if 200 < rSize l then 2 else 0)) := Lib.hid (by rw [HR.out, HA.out]; rfl)
      clear ht HR
      obtain ⟨wo, rfl⟩ : ∃ wo : World, wo = wr := ⟨_, rfl⟩
      have HBO := HBR
      clear HBR
      go_wp2_with fail
      go_loopw [8, 9, 10, 36] (fun z y p i wr => ∃ j : Nat, j ≤ k ∧ i = .int .i64 j ∧ z = .int .u8 (nulls (l.take j) : Nat) ∧ y = .int .u8 (2 ^ j % 256 : Nat) ∧ OwnB wr w.heap.size p (rBody (l.take j)).length (u8s (rBody (l.take j))) ∧ offs (l.take j) (ks.take j) = false ∧ Below w.heap.size w wr) (fun _ _ _ i _ => k - (intOf i).toNat)
      case atStart => exact ⟨0, by omega, rfl, rfl, rfl, World.ownsRow_nil _ _ _ _, rfl, HBO.out⟩
      case round =>
        obtain ⟨j, hj, rfl, rfl, rfl, hown, hoff, hbr⟩ := hrel
        have HO2 := Lib.hid hown
        have HF2 := Lib.hid hoff
        have HB2 := Lib.hid hbr
        have hsz := hbr.size
        clear hown hoff hbr
        by_cases hlt : j < k
        · have hlt' : (j : Int) < k := by omega
          obtain ⟨⟨vk, vi, vs, vb⟩, hv⟩ : ∃ v, l[j]? = some v := ⟨_, List.getElem?_eq_getElem (by rw [HL.out]; exact hlt)⟩
          obtain ⟨kb, hkb⟩ : ∃ kb, ks[j]? = some kb := ⟨_, List.getElem?_eq_getElem (by rw [HN.out]; exact hlt)⟩
          obtain ⟨ad, hA, hAt⟩ := HX.out.at_ (by omega)
          subst hA
          obtain ⟨adk, hAK, hAtk⟩ := HK.out.at_ (by omega)
          subst hAK
          obtain ⟨x0, x1, x2, x3⟩ := (hAt.below HB2.out).val hv
          dsimp only at x0 x1 x2 x3
          have xk := u8s_at ((hAtk.below HB2.out).below ((Cell.bel_alloc wr (.cells #[.int .u8 vk, .int .i64 vi, .string vs, .bool vb] 43)).mono hsz)) hkb
          have HV := Lib.hid hv
          have hvr : (⟨vk, vi, vs, vb⟩ : V).right = true := (List.all_eq_true.1 HA.out) _ (List.mem_of_getElem? hv)
          have hvo := HOK.out _ (List.mem_of_getElem? hv)
          have HCS := Lib.hid (right_cases hvr hvo.1)
          have HRS := Lib.hid hvr
          have HBX := ValAt.new wr ⟨vk, vi, vs, vb⟩ 43
          dsimp only at HBX
          have HXX := Lib.hid HBX
          have hall : (l.take j).all V.right = true := by rw [List.all_eq_true]; intro x hx; exact (List.all_eq_true.1 HA.out) x (List.mem_of_mem_take hx)
          have htl : (l.take j).length = j := by rw [List.length_take, HL.out]; omega
          have hbd : (rBody (l.take j)).length ≤ 8 * 61 := by
            have h1 := rSize_le (l.take j) hall
            have h2 := rowL_len (l.take j)
            rw [show (rowL (l.take j)).length = (rBody (l.take j)).length + 1 from rfl] at h2
            have h3 : (l.take j).length * 61 ≤ 8 * 61 := Nat.mul_le_mul_right 61 (by omega)
            omega
          have HNL : Hid (nulls (l.take (j + 1)) = nulls (l.take j) + if vk = 0 then 2 ^ j else 0) := Lib.hid (by rw [take_succ_of hv, nulls_snoc, htl])
          have HBD : Hid (rBody (l.take (j + 1)) = rBody (l.take j) ++ rBytes vk vi vs vb) := Lib.hid (by rw [take_succ_of hv, rBody_snoc]; rfl)
          have HOF : Hid (offs (l.take (j + 1)) (ks.take (j + 1)) = off1 ⟨vk, vi, vs, vb⟩ kb) := Lib.hid (by rw [offs_snoc hv hkb, HF2.out, Bool.false_or])
          have HHIT : Hid (off1 ⟨vk, vi, vs, vb⟩ kb = true → offs l ks = true) := Lib.hid (fun h => offs_hit hv hkb h)
          have hnl : nulls (l.take j) < 2 ^ j := by have := nulls_lt (l.take j); rwa [htl] at this
          have hp7 : 2 ^ j ≤ 2 ^ 7 := Nat.pow_le_pow_right (by omega) (by omega)
          have HY2 : Hid (IntKind.u8.wrap (((2 ^ j % 256 : Nat) : Int) * 2) = ((2 ^ (j + 1) % 256 : Nat) : Int)) := Lib.hid (by rw [IntKind.wrap_u8, Nat.pow_succ]; omega)
          have HY3 : Hid (((2 ^ j % 256 : Nat) : Int) * 2 % 256 = ((2 ^ (j + 1) % 256 : Nat) : Int)) := Lib.hid (by rw [Nat.pow_succ]; omega)
          have hY : 2 ^ j % 256 = 2 ^ j := by omega
          have HYY := Lib.hid hY
          have hsum : nulls (l.take j) + 2 ^ j % 256 ≤ 255 := by omega
          have hY7 : 2 ^ j % 256 ≤ 128 := by omega
          have HNE : Hid (u10.ownBlock ≠ some wr.heap.size) := Lib.hid (by intro e; have := (World.ownsRow.lt HO2.out _ e).2; omega)
          obtain ⟨P, hP⟩ : ∃ P, rBody (l.take j) = P := ⟨_, rfl⟩
          rw [hP] at HO2 HBD hbd
          obtain ⟨Z, hZ⟩ : ∃ Z, nulls (l.take j) = Z := ⟨_, rfl⟩
          rw [hZ] at HNL hsum
          obtain ⟨Y, hYd⟩ : ∃ Y, 2 ^ j % 256 = Y := ⟨_, rfl⟩
          rw [hYd] at HY2 HY3 hsum hY7 HYY
          simp only [hZ, hYd]
          clear hv hkb hAt hAtk hvr hvo hall htl hnl hp7 hY hP hZ hYd HBX
          by_cases hv0 : vk = 0
          · subst hv0
            have HF0 : Hid (off1 ⟨0, vi, vs, vb⟩ kb = false) := Lib.hid rfl
            have HB0 : Hid (rBytes 0 vi vs vb = []) := Lib.hid rfl
            go_wp2_with fail
            go_roundw
            case rel =>
              refine ⟨j + 1, by omega, by go_num, ?_, ?_, own_eq (HO2.out.alloc _) (by rw [HBD.out, HB0.out, List.append_nil]) (by rw [HBD.out, HB0.out, List.append_nil]), by rw [HOF.out, HF0.out], Cell.bel_trans HB2.out (Cell.bel_alloc _ _)⟩
              · rw [HNL.out, if_pos rfl, ← HYY.out]; push_cast; rfl
              · first | rw [HY3.out] | rw [HY2.out]
            case measure => simp [intOf]; omega
          · have hv0b : (vk == 0) = false := beq_eq_false_iff_ne.2 hv0
            by_cases hkk : vk = (kb.toNat : Int)
            rotate_left
            · have hne : (vk != (kb.toNat : Int)) = true := bne_iff_ne.2 hkk
              have HT : Hid (offs l ks = true) := Lib.hid (HHIT.out (by unfold off1; rw [show ((⟨vk, vi, vs, vb⟩ : V).k == 0) = false from hv0b, show ((⟨vk, vi, vs, vb⟩ : V).k == (kb.toNat : Int)) = false from beq_eq_false_iff_ne.2 hkk]; rfl))
              clear hv0 hkk
              go_wp2_with fail
              go_quiet (fail)
              go_wp2_with fail
              go_ret2
              exact rt_no (by rw [HR2.out, HT.out]; rfl) (by decide) (bel_drewN (Cell.bel_trans HB2.out (Cell.bel_alloc _ _)) _)
            · have hne : (vk != (kb.toNat : Int)) = false := by rw [hkk]; exact bne_self_eq_false _
              have HF0 : Hid (off1 ⟨vk, vi, vs, vb⟩ kb = false) := Lib.hid (by unfold off1; rw [show ((⟨vk, vi, vs, vb⟩ : V).k == (kb.toNat : Int)) = true from beq_iff_eq.2 hkk]; simp)
              have HKK := Lib.hid hkk
              have HV0 := Lib.hid hv0
              clear hkk hv0
              go_wp2_with fail
              go_quiet (fail)
              obtain ⟨W, hW⟩ : ∃ W, (wr.alloc (.cells #[.int .u8 vk, .int .i64 vi, .string vs, .bool vb] 43)).drewN nq = W := ⟨_, rfl⟩
              have HB3 : Hid (Below wr.heap.size wr W) := Lib.hid (by rw [← hW]; exact bel_drewN (Cell.bel_alloc _ _) nq)
              have HX3 : Hid (ValAt W ⟨wr.heap.size, 0, none⟩ ⟨vk, vi, vs, vb⟩) := Lib.hid (by rw [← hW]; exact ⟨HXX.out.c0, HXX.out.c1, HXX.out.c2, HXX.out.c3⟩)
              have hszW : wr.heap.size < W.heap.size := by rw [← hW]; show wr.heap.size < (wr.alloc _).heap.size; rw [size_alloc]; omega
              have HO3 := Lib.hid (own_kept HO2.out HB3.out)
              have HW3 : Hid (Below w.heap.size w W) := Lib.hid (HB2.out.trans (HB3.out.mono hsz))
              rw [hW]
              clear hW x0 x1 x2 x3 xk hne hv0b
              rcases HCS.out with e | ⟨b, e⟩ | ⟨i, ii, e⟩ | ⟨s, e, hz⟩
              · injection e with e1 e2 e3 e4
                exact absurd e1 HV0.out
              · injection e with e1 e2 e3 e4
                subst e1 e2 e3 e4
                obtain ⟨y0, y1, y2, y3⟩ := HX3.out
                dsimp only at y0 y1 y2 y3
                cases vb
                · go_wp2_with (at_builtin; refine wpl_app_b rfl (.tmp 94) (.tmp 95) rfl w.heap.size u10 _ _ rfl (HO3.out.alloc _) _ _ 1 _ rfl (lies_lit _ _ _ 1 1 rfl) (one1 _ _) (by omega) (by rw [size_alloc]; omega) ?_; intro v4 w4 hown4 hgrow4)
                  have HB4 := Lib.hid (HW3.out.trans (((Cell.bel_alloc W _).mono (by omega)).trans (own_below hgrow4 (by rw [size_alloc]; omega) (HO3.out.alloc _))))
                  have HO4 := Lib.hid hown4
                  clear hown4 hgrow4 y0 y1 y2 y3
                  go_wp2_with fail
                  go_roundw
                  case rel =>
                    refine ⟨j + 1, by omega, by go_num, ?_, ?_, own_eq HO4.out (by rw [HBD.out, List.length_append]; rfl) (by rw [HBD.out, u8s_app]; rfl), by rw [HOF.out, HF0.out], HB4.out⟩
                    · rw [HNL.out, if_neg HV0.out, Nat.add_zero]
                    · first | rw [HY3.out] | rw [HY2.out]
                  case measure => simp [intOf]; omega
                · go_wp2_with (at_builtin; refine wpl_app_b rfl (.tmp 91) (.tmp 92) rfl w.heap.size u10 _ _ rfl (HO3.out.alloc _) _ _ 1 _ rfl (lies_lit _ _ _ 1 1 rfl) (one1 _ _) (by omega) (by rw [size_alloc]; omega) ?_; intro v4 w4 hown4 hgrow4)
                  have HB4 := Lib.hid (HW3.out.trans (((Cell.bel_alloc W _).mono (by omega)).trans (own_below hgrow4 (by rw [size_alloc]; omega) (HO3.out.alloc _))))
                  have HO4 := Lib.hid hown4
                  clear hown4 hgrow4 y0 y1 y2 y3
                  go_wp2_with fail
                  go_roundw
                  case rel =>
                    refine ⟨j + 1, by omega, by go_num, ?_, ?_, own_eq HO4.out (by rw [HBD.out, List.length_append]; rfl) (by rw [HBD.out, u8s_app]; rfl), by rw [HOF.out, HF0.out], HB4.out⟩
                    · rw [HNL.out, if_neg HV0.out, Nat.add_zero]
                    · first | rw [HY3.out] | rw [HY2.out]
                  case measure => simp [intOf]; omega
              · injection e with e1 e2 e3 e4
                subst e1 e2 e3 e4
                obtain ⟨y0, y1, y2, y3⟩ := HX3.out
                dsimp only at y0 y1 y2 y3
                have HBD1 : Hid (rBody (l.take (j + 1)) = P ++ leU (wrapped vi)) := Lib.hid HBD.out
                have HWR := Lib.hid (wrapped_eq vi)
                have hU64 : wrapped vi < 18446744073709551616 := by unfold wrapped; omega
                obtain ⟨U, hU⟩ : ∃ U, wrapped vi = U := ⟨_, rfl⟩
                rw [hU] at HBD1 HWR hU64
                have HU64 := Lib.hid hU64
                clear hU hU64 ii HRS HCS HBD
                go_wp2_with fail
                rw [HWR.out]
                go_loopw [10, 13, 63] (fun p u c w8 => ∃ q : Nat, q ≤ 8 ∧ c = .int .i64 q ∧ u = .int .u64 ((U / 256 ^ q : Nat) : Int) ∧ OwnB w8 w.heap.size p (P.length + q) (u8s (P ++ (leU U).take q)) ∧ Below w.heap.size w w8) (fun _ _ c _ => 8 - (intOf c).toNat)
                case atStart => exact ⟨0, by omega, rfl, by simp, own_eq HO3.out rfl (by simp), HW3.out⟩
                case round =>
                  obtain ⟨q, hq, rfl, rfl, hq8, hb8⟩ := hrel
                  have HQ8 := Lib.hid hq8
                  have HB8 := Lib.hid hb8
                  have hsz8 := hb8.size
                  clear hq8 hb8
                  by_cases hj8 : q < 8
                  · have hj' : (q : Int) < 8 := by omega
                    have HFR := Lib.hid (leU_at U q hj8)
                    have HDV : Hid (U / 256 ^ (q + 1) = U / 256 ^ q / 256) := Lib.hid (by rw [Nat.pow_succ, Nat.div_div_eq_div_mul])
                    have hX : U / 256 ^ q < 18446744073709551616 := Nat.lt_of_le_of_lt (Nat.div_le_self _ _) HU64.out
                    generalize U / 256 ^ q = X at *
                    go_wp2_with (at_builtin; refine wpl_app_b rfl (.tmp 65) (.tmp 69) rfl w.heap.size _ _ _ rfl (HQ8.out.alloc _) _ _ 1 _ rfl (lies_lit _ _ _ 1 1 rfl) (one1 _ _) (by omega) (by rw [size_alloc]; omega) ?_; intro v9 w9 hown9 hgrow9)
                    have HX9 := Lib.hid (((Cell.bel_alloc _ _).mono hsz8).trans (own_below hgrow9 (by rw [size_alloc]; omega) (HQ8.out.alloc _)))
                    have HO9 := Lib.hid hown9
                    clear hown9 hgrow9
                    go_wp2_with fail
                    go_roundw
                    case rel =>
                      refine ⟨q + 1, by omega, by go_num, ?_, own_eq HO9.out (by omega) ?_, HB8.out.trans HX9.out⟩
                      · rw [HDV.out, show ((X / 256 : Nat) : Int) = (X : Int) / 256 by omega]
                      · rw [HFR.out, ← List.append_assoc, u8s_app (P ++ _)]
                        congr 1
                    case measure => simp [intOf]; omega
                  · obtain rfl : q = 8 := by omega
                    have ht8 : (leU U).take 8 = leU U := List.take_of_length_le (by rw [leU_len]; omega)
                    rw [ht8] at HQ8
                    clear ht8
                    go_wp2_with fail
                    go_roundw
                    case rel =>
                      refine ⟨j + 1, by omega, by go_num, ?_, ?_, own_eq HQ8.out (by rw [HBD1.out, List.length_append, leU_len]) (by rw [HBD1.out]), by rw [HOF.out, HF0.out], HB8.out⟩
                      · rw [HNL.out, if_neg HV0.out, Nat.add_zero]
                      · first | rw [HY3.out] | rw [HY2.out]
                    case measure => simp [intOf]; omega
              · injection e with e1 e2 e3 e4
                subst e1 e2 e3 e4
                have hs60 : vs.size ≤ 60 := (right_kind (v := ⟨2, 0, vs, false⟩) HRS.out).2
                obtain ⟨y0, y1, y2, y3⟩ := HX3.out
                dsimp only at y0 y1 y2 y3
                go_wp2_with (first | (at_builtin; refine wpl_app_b rfl (.tmp 76) (.tmp 81) rfl w.heap.size u10 _ _ rfl (HO3.out.alloc _) _ _ 1 _ rfl (lies_lit _ _ _ 1 1 rfl) (one1 _ _) (by omega) (by rw [size_alloc]; omega) ?_; intro v4 w4 hown4 hgrow4; have z2 : w4.cell? ⟨wr.heap.size, 2, none⟩ = some (.string vs) := hgrow4.cell (((Cell.bel_alloc W _).cell (p := ⟨wr.heap.size, 2, none⟩) hszW).trans y2) HNE.out; have HB4 := Lib.hid (HW3.out.trans (((Cell.bel_alloc W _).mono (by omega)).trans (own_below hgrow4 (by rw [size_alloc]; omega) (HO3.out.alloc _)))); have HO4 := Lib.hid hown4; have hsz4 := HB4.out.size) | (at_builtin; refine wpl_app_s rfl (.tmp 83) (.tmp 85) rfl w.heap.size v4 _ _ rfl HO4.out vs rfl (by omega) hsz4 ?_; intro v5 w5 hown5 hgrow5))
                have HB5 := Lib.hid (HB4.out.trans (own_below hgrow5 hsz4 HO4.out))
                have HO5 := Lib.hid hown5
                clear hown5 hgrow5
                go_wp2_with fail
                go_roundw
                case rel =>
                  refine ⟨j + 1, by omega, by go_num, ?_, ?_, own_eq HO5.out ?_ ?_, by rw [HOF.out, HF0.out], HB5.out⟩
                  · rw [HNL.out, if_neg HV0.out, Nat.add_zero]
                  · first | rw [HY3.out] | rw [HY2.out]
                  · rw [HBD.out, List.length_append]
                    show _ = P.length + (UInt8.ofNat vs.size :: vs.data.toList).length
                    rw [List.length_cons, Array.length_toList]
                    show P.length + 1 + vs.size = P.length + (vs.size + 1)
                    omega
                  · rw [HBD.out, u8s_app, List.append_assoc]
                    congr 1
                    show _ = u8s ([UInt8.ofNat vs.size] ++ vs.data.toList)
                    rw [strCells_u8s, u8s_app]
                    congr 1
                    show [Value.int .u8 (vs.size : Int)] = [Value.int .u8 ((UInt8.ofNat vs.size).toNat : Int)]
                    rw [UInt8.toNat_ofNat', Nat.mod_eq_of_lt (show vs.size < 2 ^ 8 by omega)]
                case measure => simp [intOf]; omega
        · obtain rfl : j = k := by omega
          have ht : l.take j = l := List.take_of_length_le (by rw [HL.out]; omega)
          have ht2 : ks.take j = ks := List.take_of_length_le (by rw [HN.out]; omega)
          rw [ht] at HO2 HF2
          rw [ht2] at HF2
          simp only [ht]
          have HR3 : Hid (fitsE ks l = (if 200 < rSize l then 2 else 0)) := Lib.hid (by rw [HR2.out, HF2.out]; rfl)
          have hlen : rSize l = (rBody l).length + 1 := (rowL_len l).symm
          have HLEN := Lib.hid hlen
          have HZ : Hid (u8s [UInt8.ofNat (nulls l)] = #[Value.int .u8 ((nulls l : Nat) : Int)].toList) := Lib.hid (by
            show [Value.int .u8 ((UInt8.ofNat (nulls l)).toNat : Int)] = [_]
            have h1 := nulls_lt l
            rw [HL.out] at h1
            have h2 : 2 ^ j ≤ 2 ^ 8 := Nat.pow_le_pow_right (by omega) (by omega)
            rw [UInt8.toNat_ofNat', Nat.mod_eq_of_lt (show nulls l < 2 ^ 8 by omega)])
          obtain ⟨Z, hZ⟩ : ∃ Z, nulls l = Z := ⟨_, rfl⟩
          rw [hZ] at HZ ⊢
          have HZN := Lib.hid hZ
          clear hZ
          obtain ⟨A9, c9, hv9, hs9⟩ := Sl.of_own HO2.out
          subst hv9
          have HS9 := Lib.hid hs9
          clear ht ht2 hs9
          by_cases h200 : 200 ≤ (rBody l).length
          · have h200' : (200 : Int) ≤ (rBody l).length := by omega
            clear hlen
            go_wp2_with fail
            go_ret2
            exact rt_no (by rw [HR3.out, if_pos (by rw [HLEN.out]; omega)]) (by decide) HB2.out
          · have h200' : ¬ (200 : Int) ≤ (rBody l).length := by omega
            clear hlen
            go_wp2_with (at_builtin; refine wpl_app_b rfl (.tmp 102) (.tmp 103) rfl w.heap.size _ 1 _ rfl (World.ownsRow_lit _ _ 1 hsz (by unfold maxLen; omega) rfl) _ _ (rBody l).length _ rfl (HS9.out.on (Cell.bel_alloc _ _)).lies (u8s_one _) (by omega) (by rw [size_alloc]; omega) ?_; intro v10 w10 hown10 hg10)
            have hb10 := Cell.bel_trans HB2.out (bel_app hg10)
            go_ret2
            refine ⟨hb10, .inl ⟨by rw [HR3.out, if_neg (by rw [HLEN.out]; omega)], _, rfl, own_eq hown10 (by rw [HLEN.out]; omega) ?_⟩⟩
            rw [← HZ.out, ← u8s_app]
            show u8s (UInt8.ofNat Z :: rBody l) = u8s (UInt8.ofNat (nulls l) :: rBody l)
            rw [HZN.out]
end Go.Proofs.YtfabcnbblhadnaaDoor.Mem
