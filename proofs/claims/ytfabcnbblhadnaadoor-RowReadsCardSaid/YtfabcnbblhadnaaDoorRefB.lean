/- ref03.Bytes. -/
import Derived.Test.YtfabcnbblhadnaaDoorKeyM
namespace Go.Proofs.YtfabcnbblhadnaaDoor.Mem
open Go.RowKit Go.Proofs.YtfabcnbblhadnaaDoor.Nums
open Go.Proofs.YtfabcnbblhadnaaDoor.Cell (U8 right_exact)
set_option linter.unusedVariables false
set_option linter.unusedSimpArgs false
set_option maxRecDepth 100000
theorem turn_neg {i : Int} (ii : Nums.In64 i) (h : i < 0) : IntKind.u64.wrap (IntKind.u64.wrap i - 9223372036854775808) = ((turned i : Nat) : Int) := by
  obtain ⟨h1, h2⟩ := ii
  unfold turned
  rw [IntKind.wrap_u64, IntKind.wrap_u64]
  omega
theorem turn_pos {i : Int} (ii : Nums.In64 i) (h : ¬ i < 0) : IntKind.u64.wrap (IntKind.u64.wrap i + 9223372036854775808) = ((turned i : Nat) : Int) := by
  obtain ⟨h1, h2⟩ := ii
  unfold turned
  rw [IntKind.wrap_u64, IntKind.wrap_u64]
  omega
theorem beU_front (U j : Nat) (hj : j < 8) : (beU U).drop (8 - (j + 1)) = UInt8.ofNat (U / 256 ^ j) :: (beU U).drop (8 - j) := by
  have hl : 8 - (j + 1) < (beU U).length := by rw [beU_len]; omega
  rw [List.drop_eq_getElem_cons hl, show 8 - (j + 1) + 1 = 8 - j by omega]
  congr 1
  simp only [beU, List.getElem_map, List.getElem_range]
  rw [show 8 * (7 - (8 - (j + 1))) = 8 * j by omega, show (256 : Nat) = 2 ^ 8 by rfl, ← Nat.pow_mul]
theorem own_apart3 {w0 w1 : World} {q p : Value} {B j n : Nat} {xs ys : List Value} {e e' : TypeId} {z z' : Nat} (hq : w1.ownsRow w0.heap.size e z q j xs) (hp : w0.ownsRow B e' z' p n ys) : q.ownBlock = none ∨ q.ownBlock ≠ p.ownBlock := by
  cases h : q.ownBlock with
  | none => exact .inl rfl
  | some g =>
    right
    intro e
    have h1 := World.ownsRow.lt hq _ h
    have h2 := World.ownsRow.lt hp _ e.symm
    omega
theorem rbytes03_any (l : List V) (A : Option Addr) (n c : Nat) (w : World) (hn : l.length = n) (hn12 : n ≤ 12) (ha : Sl w w.heap.size 4 A n c (vals l)) (hok : ∀ v ∈ l, v.ok) :
    Calls Tryd.prog 17 #[.slice A n c] w (Told l w) := by
  have HA := Lib.hid ha
  have HOK := Lib.hid hok
  have HN := Lib.hid hn
  clear ha hok hn
  go_enter Tryd.func17, Tryd.ntmps17
  go_wp2_with fail
  go_loopw [4, 11] (fun p c wr => ∃ k : Nat, k ≤ n ∧ c = .int .i64 k ∧ (l.take k).all V.right = true ∧ OwnB wr w.heap.size p (rowBytes (l.take k)).length (u8s (rowBytes (l.take k))) ∧ Below w.heap.size w wr) (fun _ c _ => n - (intOf c).toNat)
  case atStart => exact ⟨0, by omega, rfl, rfl, World.ownsRow_nil _ _ _ _, Below.refl _ _⟩
  case round =>
    obtain ⟨k, hk, rfl, hr, hownr, hbr⟩ := hrel
    have HO2 := Lib.hid hownr
    have HB2 := Lib.hid hbr
    have HR2 := Lib.hid hr
    have hsz := hbr.size
    clear hownr hbr hr
    by_cases hlt : k < n
    · have hlt' : (k : Int) < n := by omega
      obtain ⟨⟨vk, vi, vs, vb⟩, hv⟩ : ∃ v, l[k]? = some v := ⟨_, List.getElem?_eq_getElem (by rw [HN.out]; exact hlt)⟩
      obtain ⟨ad, hA, hAt⟩ := HA.out.at_ (by omega)
      subst hA
      replace hAt := hAt.below HB2.out
      obtain ⟨x0, x1, x2, x3⟩ := hAt.val hv
      dsimp only at x0 x1 x2 x3
      have HV := Lib.hid hv
      clear hAt hv
      have hvok : (⟨vk, vi, vs, vb⟩ : V).ok := HOK.out _ (List.mem_of_getElem? HV.out)
      have HBX := ValAt.new wr ⟨vk, vi, vs, vb⟩ 43
      dsimp only at HBX
      have HXX := Lib.hid HBX
      have HVO := Lib.hid hvok
      clear HBX hvok
      have hrl := rowBytes_le _ HR2.out
      have htl : (l.take k).length ≤ k := List.length_take_le _ _
      have HC := Lib.hid (right_exact vk vi vs vb HVO.out.2 (wr.alloc (.cells #[.int .u8 vk, .int .i64 vi, .string vs, .bool vb] 43)))
      cases hrv : Cell.rightB vk vi vs vb
      · rw [hrv] at HC
        have HF : Hid (l.all V.right = false) := Lib.hid (by
          rw [List.all_eq_false]
          exact ⟨_, List.mem_of_getElem? HV.out, by show ¬ Cell.rightB vk vi vs vb = true; rw [hrv]; exact Bool.false_ne_true⟩)
        clear hrv hrl htl
        go_wp2_with fail
        refine HC.out.mono ?_
        rintro e w3 ⟨rfl, hb3⟩
        have HB3 := Lib.hid hb3
        clear hb3 x0 x1 x2 x3
        go_wp2_with fail
        go_ret2
        exact ⟨Cell.bel_trans (Cell.bel_trans HB2.out (Cell.bel_alloc _ _)) HB3.out, .inr ⟨HF.out, rfl⟩⟩
      · rw [hrv] at HC
        have HCS := Lib.hid (right_cases (v := ⟨vk, vi, vs, vb⟩) hrv HVO.out.1)
        have HRA : Hid ((l.take (k + 1)).all V.right = true) := Lib.hid (by
          rw [take_succ_of HV.out, List.all_append, HR2.out]
          show (true && (Cell.rightB vk vi vs vb && true)) = true
          rw [hrv]
          rfl)
        have HRS : Hid (Cell.rightB vk vi vs vb = true) := Lib.hid hrv
        clear hrv
        obtain ⟨P, hP⟩ : ∃ P, rowBytes (l.take k) = P := ⟨_, rfl⟩
        have HS : Hid (rowBytes (l.take (k + 1)) = P ++ (⟨vk, vi, vs, vb⟩ : V).bytes) := Lib.hid (by
          rw [take_succ_of HV.out, rowBytes_app, hP]
          show P ++ ((⟨vk, vi, vs, vb⟩ : V).bytes ++ []) = _
          rw [List.append_nil])
        have hlen : P.length ≤ 1000 := by
          rw [← hP]
          have : (l.take k).length * 62 ≤ 12 * 62 := Nat.mul_le_mul_right _ (by omega)
          omega
        rw [hP] at HO2
        clear hrl htl hP
        go_wp2_with fail
        refine HC.out.mono ?_
        rintro e w3 ⟨rfl, hb3⟩
        have HB3 := Lib.hid (Cell.bel_trans (Cell.bel_alloc wr _) hb3)
        have hsz3 : wr.heap.size < w3.heap.size := by have := hb3.size; rw [size_alloc] at this; omega
        have HX3 := Lib.hid (HXX.out.below (B := (wr.alloc (.cells #[.int .u8 vk, .int .i64 vi, .string vs, .bool vb] 43)).heap.size) (by rw [size_alloc]; show wr.heap.size < _; omega) hb3)
        have HNE : Hid (u4.ownBlock ≠ some wr.heap.size) := Lib.hid (by intro e; have := (World.ownsRow.lt HO2.out _ e).2; omega)
        clear hb3 x0 x1 x2 x3 HXX
        have HO3 := Lib.hid (own_kept HO2.out HB3.out)
        have HW3 : Hid (Below w.heap.size w w3) := Lib.hid (HB2.out.trans (HB3.out.mono hsz))
        clear HO2
        rcases HCS.out with e | ⟨b, e⟩ | ⟨i, ii, e⟩ | ⟨s, e, hz⟩
        · injection e with e1 e2 e3 e4
          subst e1 e2 e3 e4
          obtain ⟨y0, y1, y2, y3⟩ := HX3.out
          dsimp only at y0 y1 y2 y3
          go_wp2_with (at_builtin; refine wpl_app_b rfl (.tmp 22) (.tmp 23) rfl w.heap.size u4 _ _ rfl (HO3.out.alloc _) _ _ 1 _ rfl (lies_lit _ _ _ 1 1 rfl) (one1 _ _) (by omega) (by rw [size_alloc]; omega) ?_; intro v4 w4 hown4 hgrow4)
          have HB4 := Lib.hid (HW3.out.trans (((Cell.bel_alloc w3 _).mono (by omega)).trans (own_below hgrow4 (by rw [size_alloc]; omega) (HO3.out.alloc _))))
          have HO4 := Lib.hid hown4
          clear hown4 hgrow4 y0 y1 y2 y3
          go_wp2_with fail
          go_roundw
          case rel =>
            exact ⟨k + 1, by omega, by go_num, HRA.out, own_eq HO4.out (by rw [HS.out, List.length_append]; rfl) (by rw [HS.out, u8s_app]; rfl), HB4.out⟩
          case measure => simp [intOf]; omega
        · injection e with e1 e2 e3 e4
          subst e1 e2 e3 e4
          obtain ⟨y0, y1, y2, y3⟩ := HX3.out
          dsimp only at y0 y1 y2 y3
          cases vb
          · go_wp2_with (at_builtin; refine wpl_app_b rfl (.tmp 32) (.tmp 33) rfl w.heap.size u4 _ _ rfl (HO3.out.alloc _) _ _ 2 _ rfl (lies_lit _ _ _ 1 2 rfl) (one2 _ _ _) (by omega) (by rw [size_alloc]; omega) ?_; intro v4 w4 hown4 hgrow4)
            have HB4 := Lib.hid (HW3.out.trans (((Cell.bel_alloc w3 _).mono (by omega)).trans (own_below hgrow4 (by rw [size_alloc]; omega) (HO3.out.alloc _))))
            have HO4 := Lib.hid hown4
            clear hown4 hgrow4 y0 y1 y2 y3
            go_wp2_with fail
            go_roundw
            case rel =>
              exact ⟨k + 1, by omega, by go_num, HRA.out, own_eq HO4.out (by rw [HS.out, List.length_append]; rfl) (by rw [HS.out, u8s_app]; rfl), HB4.out⟩
            case measure => simp [intOf]; omega
          · go_wp2_with (at_builtin; refine wpl_app_b rfl (.tmp 29) (.tmp 30) rfl w.heap.size u4 _ _ rfl (HO3.out.alloc _) _ _ 2 _ rfl (lies_lit _ _ _ 1 2 rfl) (one2 _ _ _) (by omega) (by rw [size_alloc]; omega) ?_; intro v4 w4 hown4 hgrow4)
            have HB4 := Lib.hid (HW3.out.trans (((Cell.bel_alloc w3 _).mono (by omega)).trans (own_below hgrow4 (by rw [size_alloc]; omega) (HO3.out.alloc _))))
            have HO4 := Lib.hid hown4
            clear hown4 hgrow4 y0 y1 y2 y3
            go_wp2_with fail
            go_roundw
            case rel =>
              exact ⟨k + 1, by omega, by go_num, HRA.out, own_eq HO4.out (by rw [HS.out, List.length_append]; rfl) (by rw [HS.out, u8s_app]; rfl), HB4.out⟩
            case measure => simp [intOf]; omega
        · injection e with e1 e2 e3 e4
          subst e1 e2 e3 e4
          obtain ⟨y0, y1, y2, y3⟩ := HX3.out
          dsimp only at y0 y1 y2 y3
          have HII := Lib.hid ii
          have HS9 : Hid (rowBytes (l.take (k + 1)) = P ++ 3 :: beU (turned vi)) := Lib.hid HS.out
          obtain ⟨U, hU⟩ : ∃ U, turned vi = U := ⟨_, rfl⟩
          rw [hU] at HS9
          have hU64 : U < 18446744073709551616 := by obtain ⟨h1, h2⟩ := ii; rw [← hU]; unfold turned; omega
          have HU64 := Lib.hid hU64
          by_cases hneg : vi < 0
          · have HT := Lib.hid (turn_neg ii hneg)
            rw [hU] at HT
            clear hU hU64 ii HS HRS HCS
            go_wp2_with fail
            rw [HT.out]
            have HW3B := Lib.hid HB3.out
            go_loopw [7, 8, 47] (fun u q c w8 => ∃ j : Nat, j ≤ 8 ∧ c = .int .i64 j ∧ u = .int .u64 ((U / 256 ^ j : Nat) : Int) ∧ OwnB w8 w3.heap.size q j (u8s ((beU U).drop (8 - j))) ∧ Below w3.heap.size w3 w8) (fun _ _ c _ => 8 - (intOf c).toNat)
            case atStart =>
              refine ⟨0, by omega, rfl, by simp, ?_, Below.refl _ _⟩
              rw [List.drop_of_length_le (by rw [beU_len]; omega)]
              exact World.ownsRow_nil _ _ _ _
            case round =>
              obtain ⟨j, hj, rfl, rfl, hq8, hb8⟩ := hrel
              have HQ8 := Lib.hid hq8
              have HB8 := Lib.hid hb8
              have hsz8 := hb8.size
              clear hq8 hb8
              by_cases hj8 : j < 8
              · have hj' : (j : Int) < 8 := by omega
                have HFR := Lib.hid (beU_front U j hj8)
                have HDV : Hid (U / 256 ^ (j + 1) = U / 256 ^ j / 256) := Lib.hid (by rw [Nat.pow_succ, Nat.div_div_eq_div_mul])
                have hX : U / 256 ^ j < 18446744073709551616 := Nat.lt_of_le_of_lt (Nat.div_le_self _ _) HU64.out
                generalize U / 256 ^ j = X at *
                go_wp2_with (at_builtin; refine wpl_app_b rfl (.tmp 52) (.tmp 53) rfl w3.heap.size _ 1 _ rfl (World.ownsRow_lit _ _ 1 hsz8 (by unfold maxLen; omega) rfl) _ _ j _ rfl (Lies.of_own (World.ownsRow.alloc HQ8.out _)) (u8s_one _) (by omega) (by rw [size_alloc]; omega) ?_; intro v9 w9 hown9 hgrow9)
                have HX9 := Lib.hid (bel_app hgrow9)
                have HO9 := Lib.hid hown9
                clear hown9 hgrow9
                go_wp2_with fail
                go_roundw
                case rel =>
                  refine ⟨j + 1, by omega, by go_num, ?_, own_eq HO9.out (Nat.add_comm _ _) ?_, HB8.out.trans (HX9.out.mono hsz8)⟩
                  · rw [HDV.out, show ((X / 256 : Nat) : Int) = (X : Int) / 256 by omega]
                  · rw [HFR.out]
                    show _ = u8s ([UInt8.ofNat X] ++ _)
                    rw [u8s_app]
                    congr 1
                case measure => simp [intOf]; omega
              · obtain rfl : j = 8 := by omega
                rw [Nat.sub_self, List.drop_zero] at HQ8
                have HO8 := Lib.hid (own_kept HO3.out (HB8.out))
                have hne8 : Hid (u8.ownBlock = none ∨ u8.ownBlock ≠ u4.ownBlock) := Lib.hid (own_apart3 HQ8.out HO3.out)
                go_wp2_with (first | (at_builtin; refine wpl_app_b rfl (.tmp 58) (.tmp 59) rfl w.heap.size u4 _ _ rfl (HO8.out.alloc _) _ _ 1 _ rfl (lies_lit _ _ _ 1 1 rfl) (one1 _ _) (by omega) (by rw [size_alloc]; omega) ?_; intro v9 w9 hown9 hgrow9; have HB9 := Lib.hid (((Cell.bel_alloc _ _).mono (by omega)).trans (own_below hgrow9 (by rw [size_alloc]; omega) (HO8.out.alloc _))); have HO9 := Lib.hid hown9; have hsz9 : w.heap.size ≤ w9.heap.size := Nat.le_trans (by omega) HB9.out.size; have HQ9 := Lib.hid (World.ownsRow.kept (World.ownsRow.alloc HQ8.out _) hgrow9.1 hne8.out)) | (at_builtin; refine wpl_app_b rfl (.tmp 60) (.tmp 61) rfl w.heap.size v9 _ _ rfl HO9.out _ _ 8 _ rfl (Lies.of_own HQ9.out) (u8s_one _) (by omega) hsz9 ?_; intro v10 w10 hown10 hgrow10))
                have HB10 := Lib.hid ((HW3.out.trans ((HB8.out.mono (by omega)).trans HB9.out)).trans (own_below hgrow10 hsz9 HO9.out))
                have HO10 := Lib.hid hown10
                clear hown9 hgrow9 hown10 hgrow10 HB9 HO9 HQ9
                go_wp2_with fail
                go_roundw
                case rel =>
                  refine ⟨k + 1, by omega, by go_num, HRA.out, own_eq HO10.out ?_ ?_, HB10.out⟩
                  · rw [HS9.out, List.length_append, List.length_cons, beU_len]
                  · rw [HS9.out, u8s_app, List.append_assoc]
                    rfl
                case measure => simp [intOf]; omega
          · have HT := Lib.hid (turn_pos ii hneg)
            rw [hU] at HT
            clear hU hU64 ii HS HRS HCS
            go_wp2_with fail
            rw [HT.out]
            have HW3B := Lib.hid HB3.out
            go_loopw [7, 8, 47] (fun u q c w8 => ∃ j : Nat, j ≤ 8 ∧ c = .int .i64 j ∧ u = .int .u64 ((U / 256 ^ j : Nat) : Int) ∧ OwnB w8 w3.heap.size q j (u8s ((beU U).drop (8 - j))) ∧ Below w3.heap.size w3 w8) (fun _ _ c _ => 8 - (intOf c).toNat)
            case atStart =>
              refine ⟨0, by omega, rfl, by simp, ?_, Below.refl _ _⟩
              rw [List.drop_of_length_le (by rw [beU_len]; omega)]
              exact World.ownsRow_nil _ _ _ _
            case round =>
              obtain ⟨j, hj, rfl, rfl, hq8, hb8⟩ := hrel
              have HQ8 := Lib.hid hq8
              have HB8 := Lib.hid hb8
              have hsz8 := hb8.size
              clear hq8 hb8
              by_cases hj8 : j < 8
              · have hj' : (j : Int) < 8 := by omega
                have HFR := Lib.hid (beU_front U j hj8)
                have HDV : Hid (U / 256 ^ (j + 1) = U / 256 ^ j / 256) := Lib.hid (by rw [Nat.pow_succ, Nat.div_div_eq_div_mul])
                have hX : U / 256 ^ j < 18446744073709551616 := Nat.lt_of_le_of_lt (Nat.div_le_self _ _) HU64.out
                generalize U / 256 ^ j = X at *
                go_wp2_with (at_builtin; refine wpl_app_b rfl (.tmp 52) (.tmp 53) rfl w3.heap.size _ 1 _ rfl (World.ownsRow_lit _ _ 1 hsz8 (by unfold maxLen; omega) rfl) _ _ j _ rfl (Lies.of_own (World.ownsRow.alloc HQ8.out _)) (u8s_one _) (by omega) (by rw [size_alloc]; omega) ?_; intro v9 w9 hown9 hgrow9)
                have HX9 := Lib.hid (bel_app hgrow9)
                have HO9 := Lib.hid hown9
                clear hown9 hgrow9
                go_wp2_with fail
                go_roundw
                case rel =>
                  refine ⟨j + 1, by omega, by go_num, ?_, own_eq HO9.out (Nat.add_comm _ _) ?_, HB8.out.trans (HX9.out.mono hsz8)⟩
                  · rw [HDV.out, show ((X / 256 : Nat) : Int) = (X : Int) / 256 by omega]
                  · rw [HFR.out]
                    show _ = u8s ([UInt8.ofNat X] ++ _)
                    rw [u8s_app]
                    congr 1
                case measure => simp [intOf]; omega
              · obtain rfl : j = 8 := by omega
                rw [Nat.sub_self, List.drop_zero] at HQ8
                have HO8 := Lib.hid (own_kept HO3.out (HB8.out))
                have hne8 : Hid (u8.ownBlock = none ∨ u8.ownBlock ≠ u4.ownBlock) := Lib.hid (own_apart3 HQ8.out HO3.out)
                go_wp2_with (first | (at_builtin; refine wpl_app_b rfl (.tmp 58) (.tmp 59) rfl w.heap.size u4 _ _ rfl (HO8.out.alloc _) _ _ 1 _ rfl (lies_lit _ _ _ 1 1 rfl) (one1 _ _) (by omega) (by rw [size_alloc]; omega) ?_; intro v9 w9 hown9 hgrow9; have HB9 := Lib.hid (((Cell.bel_alloc _ _).mono (by omega)).trans (own_below hgrow9 (by rw [size_alloc]; omega) (HO8.out.alloc _))); have HO9 := Lib.hid hown9; have hsz9 : w.heap.size ≤ w9.heap.size := Nat.le_trans (by omega) HB9.out.size; have HQ9 := Lib.hid (World.ownsRow.kept (World.ownsRow.alloc HQ8.out _) hgrow9.1 hne8.out)) | (at_builtin; refine wpl_app_b rfl (.tmp 60) (.tmp 61) rfl w.heap.size v9 _ _ rfl HO9.out _ _ 8 _ rfl (Lies.of_own HQ9.out) (u8s_one _) (by omega) hsz9 ?_; intro v10 w10 hown10 hgrow10))
                have HB10 := Lib.hid ((HW3.out.trans ((HB8.out.mono (by omega)).trans HB9.out)).trans (own_below hgrow10 hsz9 HO9.out))
                have HO10 := Lib.hid hown10
                clear hown9 hgrow9 hown10 hgrow10 HB9 HO9 HQ9
                go_wp2_with fail
                go_roundw
                case rel =>
                  refine ⟨k + 1, by omega, by go_num, HRA.out, own_eq HO10.out ?_ ?_, HB10.out⟩
                  · rw [HS9.out, List.length_append, List.length_cons, beU_len]
                  · rw [HS9.out, u8s_app, List.append_assoc]
                    rfl
                case measure => simp [intOf]; omega
        · injection e with e1 e2 e3 e4
          subst e1 e2 e3 e4
          have hs60 : vs.size ≤ 60 := (right_kind (v := ⟨2, 0, vs, false⟩) HRS.out).2
          obtain ⟨y0, y1, y2, y3⟩ := HX3.out
          dsimp only at y0 y1 y2 y3
          go_wp2_with (first | (at_builtin; refine wpl_app_b rfl (.tmp 65) (.tmp 66) rfl w.heap.size u4 _ _ rfl (HO3.out.alloc _) _ _ 1 _ rfl (lies_lit _ _ _ 1 1 rfl) (one1 _ _) (by omega) (by rw [size_alloc]; omega) ?_; intro v4 w4 hown4 hgrow4; have z2 : w4.cell? ⟨wr.heap.size, 2, none⟩ = some (.string vs) := hgrow4.cell (((Cell.bel_alloc w3 _).cell (p := ⟨wr.heap.size, 2, none⟩) hsz3).trans y2) HNE.out; have HB4 := Lib.hid (HW3.out.trans (((Cell.bel_alloc w3 _).mono (by omega)).trans (own_below hgrow4 (by rw [size_alloc]; omega) (HO3.out.alloc _)))); have HO4 := Lib.hid hown4; have hsz4 := HB4.out.size) | (at_builtin; refine wpl_app_s rfl (.tmp 68) (.tmp 70) rfl w.heap.size v4 _ _ rfl HO4.out vs rfl (by omega) hsz4 ?_; intro v5 w5 hown5 hgrow5; have HB5 := Lib.hid (HB4.out.trans (own_below hgrow5 hsz4 HO4.out)); have HO5 := Lib.hid hown5; have hsz5 := HB5.out.size) | (at_builtin; refine wpl_app_b rfl (.tmp 72) (.tmp 73) rfl w.heap.size v5 _ _ rfl (HO5.out.alloc _) _ _ 1 _ rfl (lies_lit _ _ _ 1 1 rfl) (one1 _ _) (by omega) (by rw [size_alloc]; omega) ?_; intro v6 w6 hown6 hgrow6))
          have HB6 := Lib.hid (HB5.out.trans (((Cell.bel_alloc w5 _).mono (by omega)).trans (own_below hgrow6 (by rw [size_alloc]; omega) (HO5.out.alloc _))))
          have HO6 := Lib.hid hown6
          clear hown6 hgrow6
          go_wp2_with fail
          go_roundw
          case rel =>
            refine ⟨k + 1, by omega, by go_num, HRA.out, own_eq HO6.out ?_ ?_, HB6.out⟩
            · rw [HS.out, List.length_append]
              show _ = P.length + (4 :: (vs.data.toList ++ [0])).length
              simp
              omega
            · rw [HS.out, u8s_app, List.append_assoc, List.append_assoc]
              congr 1
              show _ = u8s (4 :: (vs.data.toList ++ [0]))
              rw [strCells_u8s]
              show _ = u8s ([4] ++ (vs.data.toList ++ [0]))
              rw [u8s_app, u8s_app]
              rfl
          case measure => simp [intOf]; omega
    · obtain rfl : k = n := by omega
      have ht : l.take k = l := List.take_of_length_le (by rw [HN.out]; omega)
      rw [ht] at HO2 HR2
      clear ht
      go_wp2_with fail
      go_ret2
      exact ⟨HB2.out, .inl ⟨HR2.out, _, rfl, HO2.out⟩⟩
end Go.Proofs.YtfabcnbblhadnaaDoor.Mem
