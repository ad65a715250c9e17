/- ClogRuns: its walk. -/
import Derived.Test.YtajkedckleoboaaClogU
namespace Go.Proofs.Ytajkedckleoboaa.Clg
open Go.ChangeMaps Go.MapKept Go.RowKit Go.Proofs.Ytajkedckleoboaa.Nums Go.Proofs.Ytajkedckleoboaa.Mem
set_option linter.unusedVariables false
set_option linter.unusedSimpArgs false
set_option maxRecDepth 100000
set_option maxHeartbeats 8000000 in
theorem runs_walk (w : World) (a : Nat) (l : List O9) (A : Option Addr) (n c : Nat) (ha : a < 18446744073709551616) (hl : l.length = n) (hs : Sl w w.heap.size 3 A n c (o9_s l)) (hok : ∀ o ∈ l, o.ok) :
    Calls Try.prog 5 #[.int .u64 (a : Int), .slice A n c] w fun e w' => e = .returned (.bool true) ∧ Below w.heap.size w w' := by
  have ha' : (a : Int) < 18446744073709551616 := by omega
  obtain ⟨f0, hf0⟩ : ∃ f0 : Nat, (a : Int) % 1000000 = f0 := ⟨a % 1000000, by omega⟩
  have hf0' : (f0 : Int) < 1000000 := by omega
  obtain ⟨f, hf⟩ : ∃ f : Nat, (1 : Int) + f0 = f := ⟨1 + f0, by omega⟩
  have hf1 : 1 ≤ f := by omega
  have hf2 : f ≤ 1000000 := by omega
  have HS := Lib.hid hs
  have HL := Lib.hid hl
  have HOK := Lib.hid hok
  have hcap := hs.cap
  have hle := hs.le
  unfold maxLen at hcap
  have hmm := @run_makeMap Try.prog
  have CN := Lib.hid (fun W (h : Below w.heap.size w W) => al_new W f hf1 (by omega) h)
  clear hs hl hok ha
  go_enter Try.func5, Try.ntmps5
  go_wp2_with fail
  refine (awake_any w).mono ?_
  rintro e w1 ⟨rfl, hb1⟩
  have HB1 := Lib.hid hb1
  clear hb1
  go_wp2_with fail
  refine (CN.out _ HB1.out).mono ?_
  rintro e w2 ⟨P, rfl, ha2, _, _⟩
  have HA3 : Hid (AL w (w2.alloc (.map #[] 0)) (fun g => g = w2.heap.size) P f []) := Lib.hid ((ha2.alloc (.map #[] 0)).less (fun g hg => .inr hg))
  have HM3 : Hid (BoolD (w2.alloc (.map #[] 0)) w2.heap.size 0 (.map [])) := Lib.hid (World.ownsMap_made _ _ _ _)
  have HMW := Lib.hid ha2.bel.size
  clear ha2 CN HB1
  go_wp2_with fail
  generalize hM : w2.heap.size = M at *
  clear hM hf hf0 hf0'
  go_loopw [8, 32] (fun v i wr => ∃ q : Nat, q ≤ n ∧ i = .int .i64 q ∧ ∃ S D, S.length ≤ q ∧ S.length ≤ 60 ∧ v = .int .i64 (S.length : Nat) ∧ (∀ s ∈ S, 1 ≤ s ∧ s ≤ 3) ∧ AL w wr (fun g => g = M) P f S ∧ BoolD wr M q D ∧ Rep3 D f S) (fun _ i _ => n - (intOf i).toNat)
  case atStart => exact ⟨0, by omega, rfl, [], .map [], by simp, by simp, rfl, (fun s hs => by cases hs), HA3.out, HM3.out, rep3_new f⟩
  case round =>
    obtain ⟨q, hq, rfl, S, D, hSq, hS60, rfl, hSS, hal, hM, hR⟩ := hrel
    have HSS := Lib.hid hSS
    have HAL := Lib.hid hal
    have HM := Lib.hid hM
    have HR := Lib.hid hR
    clear hSS hal hM hR HA3 HM3
    by_cases hlq : q < n
    · have hlq' : (q : Int) < n := by omega
      obtain ⟨o, ho⟩ : ∃ o, l[q]? = some o := ⟨_, List.getElem?_eq_getElem (by rw [HL.out]; exact hlq)⟩
      obtain ⟨ad, rfl, x0, x1, x2⟩ := o9_cells HS.out HAL.out.bel ho HL.out
      obtain ⟨hd, hx⟩ := HOK.out o (List.mem_of_getElem? ho)
      obtain ⟨d, x, b⟩ := o
      have hd : d < 256 := hd
      have hx : x < 18446744073709551616 := hx
      have HA3 : Hid (AL w (wr.alloc (.cells #[.int .u8 (d : Int), .int .u64 (x : Int), .bool b] 33)) (fun g => g = M) P f S) := Lib.hid (HAL.out.below (bel_alloc wr _)).1
      have HM3 : Hid (BoolD (wr.alloc (.cells #[.int .u8 (d : Int), .int .u64 (x : Int), .bool b] 33)) M q D) := Lib.hid (HM.out.keep ((HAL.out.below (bel_alloc wr _)).2 M rfl))
      clear ho
      by_cases h60 : 60 ≤ q
      · have h60' : (60 : Int) ≤ q := by omega
        go_wp2_with fail
        go_ret
        exact ⟨rfl, HA3.out.bel⟩
      · have h60' : ¬ (60 : Int) ≤ q := by omega
        obtain ⟨p, hp⟩ : ∃ p : Nat, d % 5 = p := ⟨_, rfl⟩
        have hp' : (d : Int) % 5 = p := by omega
        have hd0 : (d : Int) < 256 := by omega
        have hx0 : (x : Int) < 18446744073709551616 := by omega
        have hp5 : p < 5 := by omega
        clear hp
        obtain ⟨y, hy⟩ : ∃ y : Nat, f + x % 64 = y := ⟨_, rfl⟩
        have hy' : (f : Int) + (x : Int) % 64 = y := by omega
        have hyy : y ≤ 1000064 := by omega
        have hyz : (y : Int) < 18446744073709551616 := by omega
        clear hy
        rcases (show p = 3 ∨ p = 4 ∨ ((p : Int) == 3) = false ∧ ((p : Int) == 4) = false by
          rcases (show p = 3 ∨ p = 4 ∨ p < 3 by omega) with h | h | h
          · exact .inl h
          · exact .inr (.inl h)
          · exact .inr (.inr ⟨by rw [beq_eq_false_iff_ne]; omega, by rw [beq_eq_false_iff_ne]; omega⟩)) with rfl | rfl | ⟨hp3, hp4⟩
        ·
          go_wp2_with fail
          refine (al_commit HA3.out y).mono ?_
          rintro e w5 ⟨rfl, ha5, hk5⟩
          have HA5 := Lib.hid ha5
          have HM5 := Lib.hid (HM3.out.keep (hk5 M rfl))
          have HKY := Lib.hid (Maps.keyOf_int_mk Try.underlying22 (wfU (x := y) (by omega)))
          clear ha5 hk5
          go_wp2_with (first | (at_delete; refine wpList_delete_own _ rfl _ _ 53 22 rfl 4 lawU Try.underlying53 _ M q D rfl HM5.out _ _ rfl HKY.out ?_; intro w6 hown6 hturn6; have HA6 := Lib.hid (HA5.out.mapped rfl HMW.out hturn6); have HM6 : Hid (BoolD w6 M (q + 1) _) := Lib.hid (World.ownsMap.mono hown6 (Nat.le_succ q)); clear hown6 hturn6) | (go_at_call 25; fail))
          have HR6 := Lib.hid (HR.out.del y (t := 2) (by omega))
          have HSS6 := Lib.hid (st_ok_end HSS.out f y (t := 2) (by omega))
          have hel := endS_len f S y 2
          generalize endS f S y 2 = S' at *
          generalize D.del (.int .u64 (y : Int)) = D' at *
          rw [← hel]
          have hS'q : S'.length ≤ q + 1 := by omega
          have hS'60 : S'.length ≤ 60 := by omega
          clear hel HAL HM HA5 HM5 hSq hS60

          have CX := Lib.hid (fun (W : World) (h : AL w W (fun g => g = M) P f S') => al_next h)
          refine (al_all HA6.out).mono ?_
          rintro e w8 ⟨A8, c8, rfl, hs8, ha8, hk8, hb8⟩
          have HS8 := Lib.hid hs8
          have HA8 := Lib.hid ha8
          have HM8 : Hid (BoolD w8 M (q + 1) D') := Lib.hid (HM6.out.keep (hk8 M rfl))
          have hrl := runs_len S' f
          have hsz := HR6.out.size
          obtain ⟨R, hRR⟩ : ∃ R, runs f S' = R := ⟨_, rfl⟩
          have HRR := Lib.hid hRR
          rw [hRR] at hsz hrl HS8
          rw [hRR]
          obtain ⟨r, hr⟩ : ∃ r, R.length = r := ⟨_, rfl⟩
          have HRL := Lib.hid hr
          have hcap8 := hs8.cap
          have hle8 := hs8.le
          unfold maxLen at hcap8
          rw [hRR] at hle8
          rw [hr] at hsz hrl hle8
          rw [hr]
          have HSZ := Lib.hid hsz
          obtain ⟨sl, hsl⟩ : ∃ sl, S'.length = sl := ⟨_, rfl⟩
          rw [hsl] at hS'q hS'60 hrl
          rw [hsl]
          have HSLL := Lib.hid hsl
          have CX2 : Hid (Calls Try.prog 22 #[.pointer (some ⟨P, 0, none⟩)] w8 fun e w' => e = .returned (.int .u64 ((f : Int) + (sl : Int))) ∧ w8 = w') := Lib.hid (by
            have := CX.out _ HA8.out
            rw [hsl, Int.natCast_add] at this
            exact this)
          clear hs8 ha8 hk8 hb8 hsz hRR hr hsl hyz hx0 hx hd hd0 hy'
          go_wp2_with (first | (at_len; refine wpList_len_own _ rfl _ 53 rfl 22 4 Try.underlying53 _ M (q + 1) D' rfl HM8.out ?_; rw [HSZ.out]) | fail)
          refine CX2.out.mono ?_
          rintro e w9 ⟨rfl, rfl⟩
          go_wp2_with fail
          go_loopw [103] (fun i wi => ∃ t : Nat, t ≤ r ∧ i = .int .i64 t ∧ AL w wi (fun g => g = M) P f S' ∧ BoolD wi M (q + 1) D' ∧ SlU wi A8 c8 R) (fun i _ => r - (intOf i).toNat)
          case atStart => exact ⟨0, by omega, rfl, HA8.out, HM8.out, HS8.out⟩
          case round =>
            obtain ⟨t, ht, rfl, hat, hmt, hst⟩ := hrel
            have HAT := Lib.hid hat
            have HMT := Lib.hid hmt
            have HST := Lib.hid hst
            clear hat hmt hst
            by_cases htr : t < r
            · have htr' : (t : Int) < r := by omega
              obtain ⟨z, hz⟩ : ∃ z, R[t]? = some z := ⟨_, List.getElem?_eq_getElem (by rw [HRL.out]; exact htr)⟩
              obtain ⟨ae, rfl, z0⟩ := HST.out.at_ hz
              have hzm : z ∈ runs f S' := by rw [HRR.out]; exact List.mem_of_getElem? hz
              have hzr := runs_ge hzm
              have hz1 : z < 18446744073709551616 := by have := HSLL.out; omega
              have hzs := st_runs.1 hzm
              have hrd := HMT.out.read HR6.out hz1
              have CS := al_state HAT.out HSS6.out hz1
              rw [hzs] at hrd CS
              push_cast at CS
              have hrd : (Instr.lookup 53 (.map (some M)) (.int .u64 (z : Int)) false).run Try.prog wr = .ok (.bool true) wr := hrd
              have CS := Lib.hid CS
              by_cases ht0 : 0 < t
              rotate_left
              · have ht0' : decide (0 < t) = false := by simpa using ht0
                clear hz hzm hzr hzs hz1 ht0
                go_wp2_with fail
                refine CS.out.mono ?_
                rintro e wj ⟨rfl, hj, hkj, hbj⟩
                have HAJ := Lib.hid hj
                have HMJ := Lib.hid (HMT.out.keep (hkj M rfl))
                have HSJ := Lib.hid (Sl.on HST.out hbj)
                clear hj hkj hbj hrd
                go_wp2_with fail
                go_roundw
                case rel => exact ⟨t + 1, by omega, by go_num, HAJ.out, HMJ.out, HSJ.out⟩
                case measure => simp [intOf]; omega
              · obtain ⟨t', ht'⟩ : ∃ t' : Nat, t = t' + 1 := ⟨t - 1, by omega⟩
                have hsub : (t : Int) - 1 = (t' : Int) := by omega
                have hsub2 : (t' : Int) < r := by omega
                obtain ⟨z', hz'⟩ : ∃ z', R[t']? = some z' := ⟨_, List.getElem?_eq_getElem (by rw [HRL.out]; omega)⟩
                have hzz := rise_at (by rw [← HRR.out]; exact runs_sorted S' f) hz' hz (by omega)
                have hzz' : decide (z ≤ z') = false := by rw [decide_eq_false_iff_not]; omega
                have HZ' := Lib.hid hz'
                clear hz hzm hzr hzs hz1 hz' hzz ht'
                go_wp2_with fail
                refine CS.out.mono ?_
                rintro e wj ⟨rfl, hj, hkj, hbj⟩
                have HAJ := Lib.hid hj
                have HMJ := Lib.hid (HMT.out.keep (hkj M rfl))
                have HSJ := Lib.hid (Sl.on HST.out hbj)
                obtain ⟨ae', hae, z1⟩ := SlU.at_ HSJ.out HZ'.out
                injection hae with hae
                subst hae
                clear hj hkj hbj hrd
                go_wp2_with fail
                go_roundw
                case rel => exact ⟨t + 1, by omega, by go_num, HAJ.out, HMJ.out, HSJ.out⟩
                case measure => simp [intOf]; omega
            · obtain rfl : t = r := by omega
              go_wp2_with fail
              go_roundw
              case rel => exact ⟨q + 1, by omega, by go_num, S', D', by rw [HSLL.out]; exact hS'q, by rw [HSLL.out]; exact hS'60, by rw [HSLL.out], HSS6.out, HAT.out, HMT.out, HR6.out⟩
              case measure => simp [intOf]; omega
        ·
          go_wp2_with fail
          refine (al_abort HA3.out (x := y) (by omega)).mono ?_
          rintro e w5 ⟨rfl, ha5, hk5⟩
          have HA5 := Lib.hid ha5
          have HM5 := Lib.hid (HM3.out.keep (hk5 M rfl))
          have HKY := Lib.hid (Maps.keyOf_int_mk Try.underlying22 (wfU (x := y) (by omega)))
          clear ha5 hk5
          go_wp2_with (first | (at_delete; refine wpList_delete_own _ rfl _ _ 53 22 rfl 4 lawU Try.underlying53 _ M q D rfl HM5.out _ _ rfl HKY.out ?_; intro w6 hown6 hturn6; have HA6 := Lib.hid (HA5.out.mapped rfl HMW.out hturn6); have HM6 : Hid (BoolD w6 M (q + 1) _) := Lib.hid (World.ownsMap.mono hown6 (Nat.le_succ q)); clear hown6 hturn6) | (go_at_call 25; fail))
          have HR6 := Lib.hid (HR.out.del y (t := 3) (by omega))
          have HSS6 := Lib.hid (st_ok_end HSS.out f y (t := 3) (by omega))
          have hel := endS_len f S y 3
          generalize endS f S y 3 = S' at *
          generalize D.del (.int .u64 (y : Int)) = D' at *
          rw [← hel]
          have hS'q : S'.length ≤ q + 1 := by omega
          have hS'60 : S'.length ≤ 60 := by omega
          clear hel HAL HM HA5 HM5 hSq hS60

          have CX := Lib.hid (fun (W : World) (h : AL w W (fun g => g = M) P f S') => al_next h)
          refine (al_all HA6.out).mono ?_
          rintro e w8 ⟨A8, c8, rfl, hs8, ha8, hk8, hb8⟩
          have HS8 := Lib.hid hs8
          have HA8 := Lib.hid ha8
          have HM8 : Hid (BoolD w8 M (q + 1) D') := Lib.hid (HM6.out.keep (hk8 M rfl))
          have hrl := runs_len S' f
          have hsz := HR6.out.size
          obtain ⟨R, hRR⟩ : ∃ R, runs f S' = R := ⟨_, rfl⟩
          have HRR := Lib.hid hRR
          rw [hRR] at hsz hrl HS8
          rw [hRR]
          obtain ⟨r, hr⟩ : ∃ r, R.length = r := ⟨_, rfl⟩
          have HRL := Lib.hid hr
          have hcap8 := hs8.cap
          have hle8 := hs8.le
          unfold maxLen at hcap8
          rw [hRR] at hle8
          rw [hr] at hsz hrl hle8
          rw [hr]
          have HSZ := Lib.hid hsz
          obtain ⟨sl, hsl⟩ : ∃ sl, S'.length = sl := ⟨_, rfl⟩
          rw [hsl] at hS'q hS'60 hrl
          rw [hsl]
          have HSLL := Lib.hid hsl
          have CX2 : Hid (Calls Try.prog 22 #[.pointer (some ⟨P, 0, none⟩)] w8 fun e w' => e = .returned (.int .u64 ((f : Int) + (sl : Int))) ∧ w8 = w') := Lib.hid (by
            have := CX.out _ HA8.out
            rw [hsl, Int.natCast_add] at this
            exact this)
          clear hs8 ha8 hk8 hb8 hsz hRR hr hsl hyz hx0 hx hd hd0 hy'
          go_wp2_with (first | (at_len; refine wpList_len_own _ rfl _ 53 rfl 22 4 Try.underlying53 _ M (q + 1) D' rfl HM8.out ?_; rw [HSZ.out]) | fail)
          refine CX2.out.mono ?_
          rintro e w9 ⟨rfl, rfl⟩
          go_wp2_with fail
          go_loopw [103] (fun i wi => ∃ t : Nat, t ≤ r ∧ i = .int .i64 t ∧ AL w wi (fun g => g = M) P f S' ∧ BoolD wi M (q + 1) D' ∧ SlU wi A8 c8 R) (fun i _ => r - (intOf i).toNat)
          case atStart => exact ⟨0, by omega, rfl, HA8.out, HM8.out, HS8.out⟩
          case round =>
            obtain ⟨t, ht, rfl, hat, hmt, hst⟩ := hrel
            have HAT := Lib.hid hat
            have HMT := Lib.hid hmt
            have HST := Lib.hid hst
            clear hat hmt hst
            by_cases htr : t < r
            · have htr' : (t : Int) < r := by omega
              obtain ⟨z, hz⟩ : ∃ z, R[t]? = some z := ⟨_, List.getElem?_eq_getElem (by rw [HRL.out]; exact htr)⟩
              obtain ⟨ae, rfl, z0⟩ := HST.out.at_ hz
              have hzm : z ∈ runs f S' := by rw [HRR.out]; exact List.mem_of_getElem? hz
              have hzr := runs_ge hzm
              have hz1 : z < 18446744073709551616 := by have := HSLL.out; omega
              have hzs := st_runs.1 hzm
              have hrd := HMT.out.read HR6.out hz1
              have CS := al_state HAT.out HSS6.out hz1
              rw [hzs] at hrd CS
              push_cast at CS
              have hrd : (Instr.lookup 53 (.map (some M)) (.int .u64 (z : Int)) false).run Try.prog wr = .ok (.bool true) wr := hrd
              have CS := Lib.hid CS
              by_cases ht0 : 0 < t
              rotate_left
              · have ht0' : decide (0 < t) = false := by simpa using ht0
                clear hz hzm hzr hzs hz1 ht0
                go_wp2_with fail
                refine CS.out.mono ?_
                rintro e wj ⟨rfl, hj, hkj, hbj⟩
                have HAJ := Lib.hid hj
                have HMJ := Lib.hid (HMT.out.keep (hkj M rfl))
                have HSJ := Lib.hid (Sl.on HST.out hbj)
                clear hj hkj hbj hrd
                go_wp2_with fail
                go_roundw
                case rel => exact ⟨t + 1, by omega, by go_num, HAJ.out, HMJ.out, HSJ.out⟩
                case measure => simp [intOf]; omega
              · obtain ⟨t', ht'⟩ : ∃ t' : Nat, t = t' + 1 := ⟨t - 1, by omega⟩
                have hsub : (t : Int) - 1 = (t' : Int) := by omega
                have hsub2 : (t' : Int) < r := by omega
                obtain ⟨z', hz'⟩ : ∃ z', R[t']? = some z' := ⟨_, List.getElem?_eq_getElem (by rw [HRL.out]; omega)⟩
                have hzz := rise_at (by rw [← HRR.out]; exact runs_sorted S' f) hz' hz (by omega)
                have hzz' : decide (z ≤ z') = false := by rw [decide_eq_false_iff_not]; omega
                have HZ' := Lib.hid hz'
                clear hz hzm hzr hzs hz1 hz' hzz ht'
                go_wp2_with fail
                refine CS.out.mono ?_
                rintro e wj ⟨rfl, hj, hkj, hbj⟩
                have HAJ := Lib.hid hj
                have HMJ := Lib.hid (HMT.out.keep (hkj M rfl))
                have HSJ := Lib.hid (Sl.on HST.out hbj)
                obtain ⟨ae', hae, z1⟩ := SlU.at_ HSJ.out HZ'.out
                injection hae with hae
                subst hae
                clear hj hkj hbj hrd
                go_wp2_with fail
                go_roundw
                case rel => exact ⟨t + 1, by omega, by go_num, HAJ.out, HMJ.out, HSJ.out⟩
                case measure => simp [intOf]; omega
            · obtain rfl : t = r := by omega
              go_wp2_with fail
              go_roundw
              case rel => exact ⟨q + 1, by omega, by go_num, S', D', by rw [HSLL.out]; exact hS'q, by rw [HSLL.out]; exact hS'60, by rw [HSLL.out], HSS6.out, HAT.out, HMT.out, HR6.out⟩
              case measure => simp [intOf]; omega
        ·
          have CB := al_begin HA3.out (by omega)
          rw [Int.natCast_add] at CB
          have CB := Lib.hid CB
          go_wp2_with fail
          refine CB.out.mono ?_
          rintro e w5 ⟨rfl, ha5, hk5⟩
          have HA5 := Lib.hid ha5
          have HM5 := Lib.hid (HM3.out.keep (hk5 M rfl))
          have hrd := HM5.out.read HR.out (x := f + S.length) (by omega)
          rw [st_out (.inr (Nat.le_refl _)), Int.natCast_add] at hrd
          have hrd : (Instr.lookup 53 (.map (some M)) (.int .u64 ((f : Int) + (S.length : Int))) false).run Try.prog w5 = .ok (.bool false) w5 := hrd
          have HKY := Maps.keyOf_int_mk Try.underlying22 (wfU (x := f + S.length) (by omega))
          rw [Int.natCast_add] at HKY
          have HKY := Lib.hid HKY
          have HQM : Hid (q < maxLen) := Lib.hid (by unfold maxLen; omega)
          have HPE : Hid (plainElem (H := Unit) Try.prog 4 (.bool true) = some (.lit (.bool true), [])) := Lib.hid (plainElem_bool Try.underlying4 true)
          have hR6 := HR.out.put
          rw [Int.natCast_add] at hR6
          have HR6 := Lib.hid hR6
          have HSS6 := Lib.hid (st_ok_snoc HSS.out)
          have hel : (S ++ [1]).length = S.length + 1 := by simp
          clear ha5 hk5 hR6
          generalize S ++ [1] = S' at *
          obtain ⟨sl0, hsl0⟩ : ∃ sl0, S.length = sl0 := ⟨_, rfl⟩
          rw [hsl0] at hrd HKY HR6 hel hSq hS60 CB
          rw [hsl0]
          have hsl1 : (sl0 : Int) ≤ 60 := by omega
          have HEL := Lib.hid hel
          clear hel hsl0
          go_wp2_with (first | (at_mapUpdate; refine wpList_mapUpdate_in _ rfl _ _ _ 53 rfl 22 4 lawU Try.underlying53 _ M q D rfl HM5.out HQM.out _ _ _ rfl rfl HKY.out _ [] HPE.out ?_; intro w6 hown6 hturn6; have HA6 := Lib.hid (HA5.out.mapped rfl HMW.out hturn6); have HM6 : Hid (BoolD w6 M (q + 1) _) := Lib.hid hown6; clear hown6 hturn6) | (go_at_call 25; fail))
          generalize D.put (.int .u64 ((f : Int) + (sl0 : Int))) (.lit (.bool true)) = D' at *
          have e1 : (sl0 : Int) + 1 = (S'.length : Int) := by have := HEL.out; omega
          rw [e1]
          have hS'q : S'.length ≤ q + 1 := by have := HEL.out; omega
          have hS'60 : S'.length ≤ 60 := by have := HEL.out; omega
          clear e1 hsl1 hrd HAL HM HA5 HM5 hSq hS60 HEL HKY CB

          have CX := Lib.hid (fun (W : World) (h : AL w W (fun g => g = M) P f S') => al_next h)
          refine (al_all HA6.out).mono ?_
          rintro e w8 ⟨A8, c8, rfl, hs8, ha8, hk8, hb8⟩
          have HS8 := Lib.hid hs8
          have HA8 := Lib.hid ha8
          have HM8 : Hid (BoolD w8 M (q + 1) D') := Lib.hid (HM6.out.keep (hk8 M rfl))
          have hrl := runs_len S' f
          have hsz := HR6.out.size
          obtain ⟨R, hRR⟩ : ∃ R, runs f S' = R := ⟨_, rfl⟩
          have HRR := Lib.hid hRR
          rw [hRR] at hsz hrl HS8
          rw [hRR]
          obtain ⟨r, hr⟩ : ∃ r, R.length = r := ⟨_, rfl⟩
          have HRL := Lib.hid hr
          have hcap8 := hs8.cap
          have hle8 := hs8.le
          unfold maxLen at hcap8
          rw [hRR] at hle8
          rw [hr] at hsz hrl hle8
          rw [hr]
          have HSZ := Lib.hid hsz
          obtain ⟨sl, hsl⟩ : ∃ sl, S'.length = sl := ⟨_, rfl⟩
          rw [hsl] at hS'q hS'60 hrl
          rw [hsl]
          have HSLL := Lib.hid hsl
          have CX2 : Hid (Calls Try.prog 22 #[.pointer (some ⟨P, 0, none⟩)] w8 fun e w' => e = .returned (.int .u64 ((f : Int) + (sl : Int))) ∧ w8 = w') := Lib.hid (by
            have := CX.out _ HA8.out
            rw [hsl, Int.natCast_add] at this
            exact this)
          clear hs8 ha8 hk8 hb8 hsz hRR hr hsl hyz hx0 hx hd hd0 hy'
          go_wp2_with (first | (at_len; refine wpList_len_own _ rfl _ 53 rfl 22 4 Try.underlying53 _ M (q + 1) D' rfl HM8.out ?_; rw [HSZ.out]) | fail)
          refine CX2.out.mono ?_
          rintro e w9 ⟨rfl, rfl⟩
          go_wp2_with fail
          go_loopw [103] (fun i wi => ∃ t : Nat, t ≤ r ∧ i = .int .i64 t ∧ AL w wi (fun g => g = M) P f S' ∧ BoolD wi M (q + 1) D' ∧ SlU wi A8 c8 R) (fun i _ => r - (intOf i).toNat)
          case atStart => exact ⟨0, by omega, rfl, HA8.out, HM8.out, HS8.out⟩
          case round =>
            obtain ⟨t, ht, rfl, hat, hmt, hst⟩ := hrel
            have HAT := Lib.hid hat
            have HMT := Lib.hid hmt
            have HST := Lib.hid hst
            clear hat hmt hst
            by_cases htr : t < r
            · have htr' : (t : Int) < r := by omega
              obtain ⟨z, hz⟩ : ∃ z, R[t]? = some z := ⟨_, List.getElem?_eq_getElem (by rw [HRL.out]; exact htr)⟩
              obtain ⟨ae, rfl, z0⟩ := HST.out.at_ hz
              have hzm : z ∈ runs f S' := by rw [HRR.out]; exact List.mem_of_getElem? hz
              have hzr := runs_ge hzm
              have hz1 : z < 18446744073709551616 := by have := HSLL.out; omega
              have hzs := st_runs.1 hzm
              have hrd := HMT.out.read HR6.out hz1
              have CS := al_state HAT.out HSS6.out hz1
              rw [hzs] at hrd CS
              push_cast at CS
              have hrd : (Instr.lookup 53 (.map (some M)) (.int .u64 (z : Int)) false).run Try.prog wr = .ok (.bool true) wr := hrd
              have CS := Lib.hid CS
              by_cases ht0 : 0 < t
              rotate_left
              · have ht0' : decide (0 < t) = false := by simpa using ht0
                clear hz hzm hzr hzs hz1 ht0
                go_wp2_with fail
                refine CS.out.mono ?_
                rintro e wj ⟨rfl, hj, hkj, hbj⟩
                have HAJ := Lib.hid hj
                have HMJ := Lib.hid (HMT.out.keep (hkj M rfl))
                have HSJ := Lib.hid (Sl.on HST.out hbj)
                clear hj hkj hbj hrd
                go_wp2_with fail
                go_roundw
                case rel => exact ⟨t + 1, by omega, by go_num, HAJ.out, HMJ.out, HSJ.out⟩
                case measure => simp [intOf]; omega
              · obtain ⟨t', ht'⟩ : ∃ t' : Nat, t = t' + 1 := ⟨t - 1, by omega⟩
                have hsub : (t : Int) - 1 = (t' : Int) := by omega
                have hsub2 : (t' : Int) < r := by omega
                obtain ⟨z', hz'⟩ : ∃ z', R[t']? = some z' := ⟨_, List.getElem?_eq_getElem (by rw [HRL.out]; omega)⟩
                have hzz := rise_at (by rw [← HRR.out]; exact runs_sorted S' f) hz' hz (by omega)
                have hzz' : decide (z ≤ z') = false := by rw [decide_eq_false_iff_not]; omega
                have HZ' := Lib.hid hz'
                clear hz hzm hzr hzs hz1 hz' hzz ht'
                go_wp2_with fail
                refine CS.out.mono ?_
                rintro e wj ⟨rfl, hj, hkj, hbj⟩
                have HAJ := Lib.hid hj
                have HMJ := Lib.hid (HMT.out.keep (hkj M rfl))
                have HSJ := Lib.hid (Sl.on HST.out hbj)
                obtain ⟨ae', hae, z1⟩ := SlU.at_ HSJ.out HZ'.out
                injection hae with hae
                subst hae
                clear hj hkj hbj hrd
                go_wp2_with fail
                go_roundw
                case rel => exact ⟨t + 1, by omega, by go_num, HAJ.out, HMJ.out, HSJ.out⟩
                case measure => simp [intOf]; omega
            · obtain rfl : t = r := by omega
              go_wp2_with fail
              go_roundw
              case rel => exact ⟨q + 1, by omega, by go_num, S', D', by rw [HSLL.out]; exact hS'q, by rw [HSLL.out]; exact hS'60, by rw [HSLL.out], HSS6.out, HAT.out, HMT.out, HR6.out⟩
              case measure => simp [intOf]; omega
    · obtain rfl : q = n := by omega
      go_wp2_with fail
      go_ret
      exact ⟨rfl, HAL.out.bel⟩
end Go.Proofs.Ytajkedckleoboaa.Clg

