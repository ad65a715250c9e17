/- ClogOnce: its walk. -/
import Derived.Test.YtajkedckleoboaaClogO
import Derived.Test.YtajkedckleoboaaLClogEnds
import Derived.Deep.RegionHeld3
namespace Go.Proofs.Ytajkedckleoboaa.Clg
open Go.ChangeMaps Go.MapKept Go.RowKit Go.Proofs.Ytajkedckleoboaa.Nums Go.Proofs.Ytajkedckleoboaa.Mem
set_option linter.unusedVariables false
set_option linter.unusedSimpArgs false
set_option maxRecDepth 100000
set_option maxHeartbeats 8000000 in
theorem once_walk (w : World) (a0 : Int) (l : List By) (A : Option Addr) (n c : Nat) (h0 : 0 ≤ a0 ∧ a0 ≤ 255) (hl : l.length = n) (hs : Sl w w.heap.size 1 A n c (by_s l)) (hok : ∀ o ∈ l, o.ok) :
    Calls Try.prog 4 #[.int .u8 a0, .slice A n c] w fun e w' => e = .returned (.bool true) ∧ Below w.heap.size w w' := by
  obtain ⟨a, rfl⟩ : ∃ a : Nat, a0 = a := ⟨a0.toNat, by omega⟩
  have ha : (a : Int) ≤ 255 := h0.2
  clear h0
  obtain ⟨m, hm⟩ : ∃ m, a % 40 = m := ⟨_, rfl⟩
  have hm' : (a : Int) % 40 = m := by omega
  have hm1 : m ≤ 39 := by omega
  obtain ⟨k, hk⟩ : ∃ k, 1 + m = k := ⟨_, rfl⟩
  have hk' : (1 : Int) + m = k := by omega
  have hk1 : 1 ≤ k := by omega
  have hk40 : k ≤ 40 := by omega
  have HS := Lib.hid hs
  have HL := Lib.hid hl
  have HOK := Lib.hid hok
  have hcap := hs.cap
  have hle := hs.le
  unfold maxLen at hcap
  have hmm := @run_makeMap Try.prog
  have CN := Lib.hid (fun W (h : Below w.heap.size w W) => al_new W 1 (by omega) (by omega) h)
  clear hm hk hs hl hok
  go_enter Try.func4, Try.ntmps4
  go_wp2_with fail
  refine (awake_any w).mono ?_
  rintro e w1 ⟨rfl, hb1⟩
  have HB1 := Lib.hid hb1
  clear hb1
  go_wp2_with fail
  refine (CN.out _ HB1.out).mono ?_
  rintro e w2 ⟨P, rfl, ha2, _, _⟩
  have HA2 := Lib.hid ha2
  clear ha2 CN HB1
  go_wp2_with fail
  clear hm' hk'
  go_loopw [25] (fun i wr => ∃ j : Nat, j ≤ k ∧ i = .int .u64 j ∧ AL w wr No P 1 (List.replicate j 1)) (fun i _ => k - (intOf i).toNat)
  case atStart => exact ⟨0, by omega, rfl, HA2.out⟩
  case round =>
    obtain ⟨j, hj, rfl, hal⟩ := hrel
    have HAL := Lib.hid hal
    clear hal HA2
    by_cases hlt : j < k
    · have hlt' : (j : Int) < k := by omega
      have CB := al_begin HAL.out (by rw [List.length_replicate]; omega)
      rw [rep_snoc] at CB
      have CB := Lib.hid CB
      go_wp2_with fail
      refine CB.out.mono ?_
      rintro e w3 ⟨rfl, ha3, _⟩
      have HA3 := Lib.hid ha3
      clear ha3
      go_wp2_with fail
      go_roundw
      case rel => exact ⟨j + 1, by omega, by go_num, HA3.out⟩
      case measure => simp [intOf]; omega
    · obtain rfl : j = k := by omega
      have HA3 : Hid (AL w (wr.alloc (.map #[] 0)) (fun g => g = wr.heap.size) P 1 (List.replicate j 1)) := Lib.hid ((HAL.out.alloc (.map #[] 0)).less (fun g hg => .inr hg))
      have HM3 : Hid (IntD (wr.alloc (.map #[] 0)) wr.heap.size 0 (.map [])) := Lib.hid (World.ownsMap_made _ _ _ _)
      have HR3 := Lib.hid (rep2_new j (runs_rep j 1))
      have HSL : Hid (∀ s ∈ List.replicate j 1, 1 ≤ s ∧ s ≤ 3) := Lib.hid (rep_ok j)
      have HJ0 : Hid ((List.replicate j 1).length = j) := Lib.hid List.length_replicate
      generalize List.replicate j 1 = S0 at *
      go_wp2_with fail
      have HMW := Lib.hid HAL.out.bel.size
      generalize hM : wr.heap.size = M at *
      clear HAL hM
      go_loopw [33] (fun i wr => ∃ q : Nat, q ≤ n ∧ i = .int .i64 q ∧ ∃ S D, S.length = j ∧ (∀ s ∈ S, 1 ≤ s ∧ s ≤ 3) ∧ AL w wr (fun g => g = M) P 1 S ∧ IntD wr M q D ∧ Rep2 D S) (fun i _ => n - (intOf i).toNat)
      case atStart => exact ⟨0, by omega, rfl, S0, .map [], HJ0.out, HSL.out, HA3.out, HM3.out, HR3.out⟩
      case round =>
        obtain ⟨q, hq, rfl, S, D, hSj, hSS, hal, hM, hR⟩ := hrel
        have HSJ := Lib.hid hSj
        have HSS := Lib.hid hSS
        have HAL := Lib.hid hal
        have HM := Lib.hid hM
        have HR := Lib.hid hR
        clear hSj hSS hal hM hR HA3 HM3 HR3
        by_cases hlq : q < n
        · have hlq' : (q : Int) < n := by omega
          obtain ⟨o, ho⟩ : ∃ o, l[q]? = some o := ⟨_, List.getElem?_eq_getElem (by rw [HL.out]; exact hlq)⟩
          obtain ⟨ad, rfl, x0⟩ := by_cells HS.out HAL.out.bel ho HL.out
          have hz := HOK.out o (List.mem_of_getElem? ho)
          obtain ⟨z⟩ := o
          have hz : z < 256 := hz
          have hz' : (z : Int) < 256 := by omega
          rw [Nat.mul_one] at x0
          clear ho
          by_cases h80 : 80 ≤ q
          · have h80' : (80 : Int) ≤ q := by omega
            go_wp2_with fail
            refine (al_all HAL.out).mono ?_
            rintro e w5 ⟨A5, c5, rfl, hs5, ha5, hk5, hb5⟩
            have HA5 := Lib.hid ha5
            have HM5 : Hid (IntD w5 M q D) := Lib.hid (HM.out.keep (hk5 M rfl))
            have hsz := HR.out.size
            have hsj := HSJ.out
            generalize (runs 1 S).length = rl at *
            have hrl : (rl : Int) ≤ 40 := by omega
            obtain ⟨sz, hsz'⟩ : ∃ sz, Maps.size D = sz := ⟨_, rfl⟩
            have HSZ := Lib.hid hsz'
            have hsum : (j : Int) - (sz : Int) = (rl : Int) := by omega
            have hsz40 : (sz : Int) ≤ 40 := by omega
            clear hs5 ha5 hk5 hb5 hsz hsj hsz'
            go_wp2_with (first | (at_len; refine wpList_len_own _ rfl _ 50 rfl 22 3 Try.underlying50 _ M q D rfl HM5.out ?_; rw [HSZ.out]) | fail)
            go_ret
            exact ⟨rfl, HA5.out.bel⟩
          · have h80' : ¬ (80 : Int) ≤ q := by omega
            obtain ⟨y, hy⟩ : ∃ y, z / 2 % j = y := ⟨_, rfl⟩
            have hyj : y < j := by rw [← hy]; exact Nat.mod_lt _ hk1
            have hy' : (z : Int) / 2 % (j : Int) = (y : Int) := by rw [← hy]; push_cast; rfl
            obtain ⟨x, hx⟩ : ∃ x, 1 + y = x := ⟨_, rfl⟩
            have hx' : (1 : Int) + (y : Int) = (x : Int) := by omega
            have hx40 : x ≤ 40 := by omega
            have hin : 1 ≤ stOf 1 S x ∧ stOf 1 S x ≤ 3 := by
              unfold stOf
              rw [if_pos (by omega), List.getD_eq_getElem?_getD, List.getElem?_eq_getElem (by have := HSJ.out; omega)]
              exact HSS.out _ (List.getElem_mem _)
            have HIN : Hid (1 ≤ stOf 1 S x) := Lib.hid hin.1
            have HLE : Hid (stOf 1 S x ≤ 3) := Lib.hid hin.2
            clear hy hx hin
            by_cases hab : (bits BinOp.and IntKind.u8 (z : Int) 1 == 1) = true
            · by_cases hst : stOf 1 S x = 1
              · have HST := Lib.hid hst
                clear hst
                go_wp2_with fail
                refine (al_abort HAL.out (x := x) (by omega)).mono ?_
                rintro e w5 ⟨rfl, ha5, hk5⟩
                have he : endE 1 S x = 0 := if_pos HST.out
                have hs' : endS 1 S x 3 = S.set (x - 1) 3 := if_pos HST.out
                rw [he]
                rw [hs'] at ha5
                have HA5 := Lib.hid ha5
                have HM5 := Lib.hid (HM.out.keep (hk5 M rfl))
                have hrd := HM5.out.read HR.out (x := x) (by omega)
                have hmS : mS S x = 0 := by unfold mS; rw [HST.out]; rfl
                rw [hmS] at hrd
                have HKY := Lib.hid (Maps.keyOf_int_mk Try.underlying22 (wfU (x := x) (by omega)))
                have HQM : Hid (q < maxLen) := Lib.hid (by unfold maxLen; omega)
                have HPE : Hid (plainElem (H := Unit) Try.prog 3 (.int .i64 3) = some (.lit (.int .i64 3), [])) := Lib.hid (plainElem_int Try.underlying3 (by decide))
                have HR6 := Lib.hid (HR.out.put HST.out (t := 3) (by omega))
                have HST6 : Hid (stOf 1 (S.set (x - 1) 3) x = 3) := Lib.hid (by rw [st_set (by rw [HST.out]; omega), if_pos rfl])
                have HSS6 : Hid (∀ s ∈ S.set (x - 1) 3, 1 ≤ s ∧ s ≤ 3) := Lib.hid (by rw [← hs']; exact st_ok_end HSS.out 1 x (by omega))
                have HSJ6 : Hid ((S.set (x - 1) 3).length = j) := Lib.hid (by rw [List.length_set]; exact HSJ.out)
                clear he hs' ha5 hk5 hmS
                go_wp2_with (first | (at_mapUpdate; refine wpList_mapUpdate_in _ rfl _ _ _ 50 rfl 22 3 lawU Try.underlying50 _ M q D rfl HM5.out HQM.out _ _ _ rfl rfl HKY.out _ [] HPE.out ?_; intro w6 hown6 hturn6; have HA6 := Lib.hid (HA5.out.mapped rfl HMW.out hturn6); have HM6 : Hid (IntD w6 M (q + 1) _) := Lib.hid hown6; clear hown6 hturn6) | fail)
                have HRD : Hid (∀ W, IntD W M (q + 1) (D.put (.int .u64 (x : Int)) (.lit (.int .i64 3))) → (Instr.lookup 50 (.map (some M)) (.int .u64 (x : Int)) false).run Try.prog W = .ok (.int .i64 3) W) := Lib.hid fun W hW => by
                  have := hW.read HR6.out (x := x) (by omega)
                  unfold mS at this
                  rw [HST6.out] at this
                  exact this
                generalize S.set (x - 1) 3 = S' at *
                generalize D.put (.int .u64 (x : Int)) (.lit (.int .i64 3)) = D' at *
                have CS := al_state (w := World.drew _) (HA6.out.drewN 1) HSS6.out (x := x) (by omega)
                rw [HST6.out] at CS
                have CS := Lib.hid CS
                clear hrd
                go_region_held3 (fun w' => (Instr.lookup 50 (.map (some M)) (.int .u64 (x : Int)) false).run Try.prog w' = .ok (.int .i64 3) w') (first | exact HRD.out _ (show IntD (World.drew _) M (q + 1) D' from HM6.out) | exact HRD.out _ (HM6.out.keep (hk7 M rfl)) | go_keep) ((go_at_call 20; refine CS.out.mono ?_; rintro e w7 ⟨rfl, ha7, hk7, hb7⟩))
                all_goals
                  have HA7 := Lib.hid ha7
                  have HM7 : Hid (IntD w7 M (q + 1) D') := Lib.hid (HM6.out.keep (hk7 M rfl))
                  clear ha7 hk7 hb7
                  go_wp2_with fail
                  go_roundw
                  case rel => exact ⟨q + 1, by omega, by go_num, S', D', HSJ6.out, HSS6.out, HA7.out, HM7.out, HR6.out⟩
                  case measure => simp [intOf]; omega
              · have HNR := Lib.hid hst
                clear hst
                go_wp2_with fail
                refine (al_abort HAL.out (x := x) (by omega)).mono ?_
                rintro e w5 ⟨rfl, ha5, hk5⟩
                have he : endE 1 S x = 15 := if_neg HNR.out
                have hs' : endS 1 S x 3 = S := if_neg HNR.out
                rw [he]
                rw [hs'] at ha5
                have HA6 := Lib.hid ha5
                have HM6 : Hid (IntD w5 M (q + 1) D) := Lib.hid (World.ownsMap.mono (HM.out.keep (hk5 M rfl)) (Nat.le_succ q))
                obtain ⟨s, hst⟩ : ∃ s, stOf 1 S x = s := ⟨_, rfl⟩
                have hs2 : 2 ≤ s := by have := HNR.out; have := HIN.out; omega
                have hs3 : s ≤ 3 := by rw [← hst]; exact HLE.out
                have HST6 := Lib.hid hst
                have HRD : Hid (∀ W, IntD W M (q + 1) D → (Instr.lookup 50 (.map (some M)) (.int .u64 (x : Int)) false).run Try.prog W = .ok (.int .i64 (s : Int)) W) := Lib.hid fun W hW => by
                  have := hW.read HR.out (x := x) (by omega)
                  unfold mS at this
                  rw [hst, if_neg (by omega)] at this
                  exact this
                have hs0 : ((s : Int) == 0) = false := by rw [beq_eq_false_iff_ne]; omega
                have hrd := HRD.out _ HM6.out
                have HR6 := HR
                have HSS6 := HSS
                have HSJ6 := HSJ
                obtain ⟨S', hS'⟩ : ∃ S', S = S' := ⟨_, rfl⟩
                obtain ⟨D', hD'⟩ : ∃ D', D = D' := ⟨_, rfl⟩
                rw [hS'] at HA6 HST6 HSS6 HSJ6
                rw [hS', hD'] at HR6
                rw [hD'] at HM6 HRD
                clear he hs' ha5 hk5 hst hs2 hs3 hS' hD'
                obtain ⟨w6, hw6⟩ : ∃ w6, w5 = w6 := ⟨_, rfl⟩
                subst hw6
                go_wp2_with fail
                have CS := al_state (w := World.drew _) (HA6.out.drewN 1) HSS6.out (x := x) (by omega)
                rw [HST6.out] at CS
                have CS := Lib.hid CS
                clear hrd
                go_region_held3 (fun w' => (Instr.lookup 50 (.map (some M)) (.int .u64 (x : Int)) false).run Try.prog w' = .ok (.int .i64 (s : Int)) w') (first | exact HRD.out _ (show IntD (World.drew _) M (q + 1) D' from HM6.out) | exact HRD.out _ (HM6.out.keep (hk7 M rfl)) | go_keep) ((go_at_call 20; refine CS.out.mono ?_; rintro e w7 ⟨rfl, ha7, hk7, hb7⟩))
                all_goals
                  have HA7 := Lib.hid ha7
                  have HM7 : Hid (IntD w7 M (q + 1) D') := Lib.hid (HM6.out.keep (hk7 M rfl))
                  clear ha7 hk7 hb7
                  go_wp2_with fail
                  go_roundw
                  case rel => exact ⟨q + 1, by omega, by go_num, S', D', HSJ6.out, HSS6.out, HA7.out, HM7.out, HR6.out⟩
                  case measure => simp [intOf]; omega
            · have hab' : (bits BinOp.and IntKind.u8 (z : Int) 1 == 1) = false := by simpa using hab
              clear hab
              by_cases hst : stOf 1 S x = 1
              · have HST := Lib.hid hst
                clear hst
                go_wp2_with fail
                refine (al_commit HAL.out x).mono ?_
                rintro e w5 ⟨rfl, ha5, hk5⟩
                have he : endE 1 S x = 0 := if_pos HST.out
                have hs' : endS 1 S x 2 = S.set (x - 1) 2 := if_pos HST.out
                rw [he]
                rw [hs'] at ha5
                have HA5 := Lib.hid ha5
                have HM5 := Lib.hid (HM.out.keep (hk5 M rfl))
                have hrd := HM5.out.read HR.out (x := x) (by omega)
                have hmS : mS S x = 0 := by unfold mS; rw [HST.out]; rfl
                rw [hmS] at hrd
                have HKY := Lib.hid (Maps.keyOf_int_mk Try.underlying22 (wfU (x := x) (by omega)))
                have HQM : Hid (q < maxLen) := Lib.hid (by unfold maxLen; omega)
                have HPE : Hid (plainElem (H := Unit) Try.prog 3 (.int .i64 2) = some (.lit (.int .i64 2), [])) := Lib.hid (plainElem_int Try.underlying3 (by decide))
                have HR6 := Lib.hid (HR.out.put HST.out (t := 2) (by omega))
                have HST6 : Hid (stOf 1 (S.set (x - 1) 2) x = 2) := Lib.hid (by rw [st_set (by rw [HST.out]; omega), if_pos rfl])
                have HSS6 : Hid (∀ s ∈ S.set (x - 1) 2, 1 ≤ s ∧ s ≤ 3) := Lib.hid (by rw [← hs']; exact st_ok_end HSS.out 1 x (by omega))
                have HSJ6 : Hid ((S.set (x - 1) 2).length = j) := Lib.hid (by rw [List.length_set]; exact HSJ.out)
                clear he hs' ha5 hk5 hmS
                go_wp2_with (first | (at_mapUpdate; refine wpList_mapUpdate_in _ rfl _ _ _ 50 rfl 22 3 lawU Try.underlying50 _ M q D rfl HM5.out HQM.out _ _ _ rfl rfl HKY.out _ [] HPE.out ?_; intro w6 hown6 hturn6; have HA6 := Lib.hid (HA5.out.mapped rfl HMW.out hturn6); have HM6 : Hid (IntD w6 M (q + 1) _) := Lib.hid hown6; clear hown6 hturn6) | fail)
                have HRD : Hid (∀ W, IntD W M (q + 1) (D.put (.int .u64 (x : Int)) (.lit (.int .i64 2))) → (Instr.lookup 50 (.map (some M)) (.int .u64 (x : Int)) false).run Try.prog W = .ok (.int .i64 2) W) := Lib.hid fun W hW => by
                  have := hW.read HR6.out (x := x) (by omega)
                  unfold mS at this
                  rw [HST6.out] at this
                  exact this
                generalize S.set (x - 1) 2 = S' at *
                generalize D.put (.int .u64 (x : Int)) (.lit (.int .i64 2)) = D' at *
                have CS := al_state (w := World.drew _) (HA6.out.drewN 1) HSS6.out (x := x) (by omega)
                rw [HST6.out] at CS
                have CS := Lib.hid CS
                clear hrd
                go_region_held3 (fun w' => (Instr.lookup 50 (.map (some M)) (.int .u64 (x : Int)) false).run Try.prog w' = .ok (.int .i64 2) w') (first | exact HRD.out _ (show IntD (World.drew _) M (q + 1) D' from HM6.out) | exact HRD.out _ (HM6.out.keep (hk7 M rfl)) | go_keep) ((go_at_call 20; refine CS.out.mono ?_; rintro e w7 ⟨rfl, ha7, hk7, hb7⟩))
                all_goals
                  have HA7 := Lib.hid ha7
                  have HM7 : Hid (IntD w7 M (q + 1) D') := Lib.hid (HM6.out.keep (hk7 M rfl))
                  clear ha7 hk7 hb7
                  go_wp2_with fail
                  go_roundw
                  case rel => exact ⟨q + 1, by omega, by go_num, S', D', HSJ6.out, HSS6.out, HA7.out, HM7.out, HR6.out⟩
                  case measure => simp [intOf]; omega
              · have HNR := Lib.hid hst
                clear hst
                go_wp2_with fail
                refine (al_commit HAL.out x).mono ?_
                rintro e w5 ⟨rfl, ha5, hk5⟩
                have he : endE 1 S x = 15 := if_neg HNR.out
                have hs' : endS 1 S x 2 = S := if_neg HNR.out
                rw [he]
                rw [hs'] at ha5
                have HA6 := Lib.hid ha5
                have HM6 : Hid (IntD w5 M (q + 1) D) := Lib.hid (World.ownsMap.mono (HM.out.keep (hk5 M rfl)) (Nat.le_succ q))
                obtain ⟨s, hst⟩ : ∃ s, stOf 1 S x = s := ⟨_, rfl⟩
                have hs2 : 2 ≤ s := by have := HNR.out; have := HIN.out; omega
                have hs3 : s ≤ 3 := by rw [← hst]; exact HLE.out
                have HST6 := Lib.hid hst
                have HRD : Hid (∀ W, IntD W M (q + 1) D → (Instr.lookup 50 (.map (some M)) (.int .u64 (x : Int)) false).run Try.prog W = .ok (.int .i64 (s : Int)) W) := Lib.hid fun W hW => by
                  have := hW.read HR.out (x := x) (by omega)
                  unfold mS at this
                  rw [hst, if_neg (by omega)] at this
                  exact this
                have hs0 : ((s : Int) == 0) = false := by rw [beq_eq_false_iff_ne]; omega
                have hrd := HRD.out _ HM6.out
                have HR6 := HR
                have HSS6 := HSS
                have HSJ6 := HSJ
                obtain ⟨S', hS'⟩ : ∃ S', S = S' := ⟨_, rfl⟩
                obtain ⟨D', hD'⟩ : ∃ D', D = D' := ⟨_, rfl⟩
                rw [hS'] at HA6 HST6 HSS6 HSJ6
                rw [hS', hD'] at HR6
                rw [hD'] at HM6 HRD
                clear he hs' ha5 hk5 hst hs2 hs3 hS' hD'
                obtain ⟨w6, hw6⟩ : ∃ w6, w5 = w6 := ⟨_, rfl⟩
                subst hw6
                go_wp2_with fail
                have CS := al_state (w := World.drew _) (HA6.out.drewN 1) HSS6.out (x := x) (by omega)
                rw [HST6.out] at CS
                have CS := Lib.hid CS
                clear hrd
                go_region_held3 (fun w' => (Instr.lookup 50 (.map (some M)) (.int .u64 (x : Int)) false).run Try.prog w' = .ok (.int .i64 (s : Int)) w') (first | exact HRD.out _ (show IntD (World.drew _) M (q + 1) D' from HM6.out) | exact HRD.out _ (HM6.out.keep (hk7 M rfl)) | go_keep) ((go_at_call 20; refine CS.out.mono ?_; rintro e w7 ⟨rfl, ha7, hk7, hb7⟩))
                all_goals
                  have HA7 := Lib.hid ha7
                  have HM7 : Hid (IntD w7 M (q + 1) D') := Lib.hid (HM6.out.keep (hk7 M rfl))
                  clear ha7 hk7 hb7
                  go_wp2_with fail
                  go_roundw
                  case rel => exact ⟨q + 1, by omega, by go_num, S', D', HSJ6.out, HSS6.out, HA7.out, HM7.out, HR6.out⟩
                  case measure => simp [intOf]; omega
        · obtain rfl : q = n := by omega
          go_wp2_with fail
          refine (al_all HAL.out).mono ?_
          rintro e w5 ⟨A5, c5, rfl, hs5, ha5, hk5, hb5⟩
          have HA5 := Lib.hid ha5
          have HM5 : Hid (IntD w5 M q D) := Lib.hid (HM.out.keep (hk5 M rfl))
          have hsz := HR.out.size
          have hsj := HSJ.out
          generalize (runs 1 S).length = rl at *
          have hrl : (rl : Int) ≤ 40 := by omega
          obtain ⟨sz, hsz'⟩ : ∃ sz, Maps.size D = sz := ⟨_, rfl⟩
          have HSZ := Lib.hid hsz'
          have hsum : (j : Int) - (sz : Int) = (rl : Int) := by omega
          have hsz40 : (sz : Int) ≤ 40 := by omega
          clear hs5 ha5 hk5 hb5 hsz hsj hsz'
          go_wp2_with (first | (at_len; refine wpList_len_own _ rfl _ 50 rfl 22 3 Try.underlying50 _ M q D rfl HM5.out ?_; rw [HSZ.out]) | fail)
          go_ret
          exact ⟨rfl, HA5.out.bel⟩
end Go.Proofs.Ytajkedckleoboaa.Clg
