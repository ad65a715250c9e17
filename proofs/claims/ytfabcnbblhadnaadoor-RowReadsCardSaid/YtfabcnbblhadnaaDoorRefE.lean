/- ref04.Read. -/
import Derived.Test.YtfabcnbblhadnaaDoorRefC
import Derived.Test.YtfabcnbblhadnaaDoorRefR
import Derived.Test.YtfabcnbblhadnaaDoorLReads
import Derived.Test.YtfabcnbblhadnaaDoorRowM
namespace Go.Proofs.YtfabcnbblhadnaaDoor.Mem
open Go.RowKit Go.Proofs.YtfabcnbblhadnaaDoor.Nums
open Go.Proofs.YtfabcnbblhadnaaDoor.Cell (U8 right_exact)
set_option linter.unusedVariables false
set_option linter.unusedSimpArgs false
set_option maxRecDepth 100000
set_option maxHeartbeats 8000000
theorem sl_n {w : World} {B e n n' c c' : Nat} {A : Option Addr} {L : List Value} (h : Sl w B e A n c L) (hn : n = n') (hc : c = c') : Sl w B e A n' c' L := by
  subst hn; subst hc; exact h
theorem leN_front {x : List UInt8} {q : Nat} {d : UInt8} (hd : x[q]? = some d) (hq : q < 8) : leN ((x.take 8).drop q) = d.toNat + 256 * leN ((x.take 8).drop (q + 1)) := by
  obtain ⟨h1, h2⟩ := List.getElem?_eq_some_iff.1 hd
  have h3 : q < (x.take 8).length := by rw [List.length_take]; omega
  rw [List.drop_eq_getElem_cons h3]
  show (x.take 8)[q].toNat + 256 * _ = _
  rw [List.getElem_take, h2]
theorem leN_bd {x : List UInt8} {q : Nat} (hq : q < 8) : leN ((x.take 8).drop (q + 1)) < 72057594037927936 := by
  have h1 := leN_lt ((x.take 8).drop (q + 1))
  have h2 : ((x.take 8).drop (q + 1)).length ≤ 7 := by rw [List.length_drop, List.length_take]; omega
  have h3 : (2 : Nat) ^ (8 * ((x.take 8).drop (q + 1)).length) ≤ 2 ^ 56 := Nat.pow_le_pow_right (by omega) (by omega)
  have h4 : (2 : Nat) ^ 56 = 72057594037927936 := by decide
  omega
theorem refread4_5 (ks r : List UInt8) (b : UInt8) (n c : Nat) (A : Option Addr) (ad0 : Addr) (m c0 : Nat) (w : World) (hn : ks.length = n) (hk : Sl w w.heap.size 1 A n c (u8s ks)) (h : ksOk ks = true) (hm : r.length = m) (h2 : m + 1 ≤ 200) (hx : Sl w w.heap.size 1 (some ad0) (m + 1) c0 (u8s (b :: r))) (hc1 : ¬ c0 = 1) :
    Calls Tryd.prog 37 #[.slice A n c, .slice (some ad0) (m + 1 : Nat) c0] w (RdPost (rRow ks (b :: r)) w) := by
  have C1 := Lib.hid (refkinds_any ks A n c w hk)
  have HR0 : Hid (rRow ks (b :: r) = if 200 < r.length + 1 ∨ 2 ^ ks.length ≤ b.toNat then ((3 : Int), ([] : List V)) else match readK ks b.toNat r with | some (l, []) => (0, l) | _ => (3, [])) := Lib.hid (by unfold rRow; rw [h]; rfl)
  have HKO := Lib.hid h
  have HN0 := Lib.hid hn
  have hn8 := ksOk_len h
  rw [hn] at hn8
  obtain ⟨hn1, hn8⟩ := hn8
  rw [h] at C1
  have hb8 := b.toNat_lt
  have h2' : ¬ (200 : Int) < (m : Int) + 1 := by omega
  have h2'' : ¬ ((m : Int) + 1) < 1 := by omega
  have hle := hx.le
  have hcap := hx.cap
  unfold maxLen at hcap
  have x0 : w.cell? ad0 = some (.int .u8 (b.toNat : Int)) := by
    obtain ⟨ad', hA, hAt⟩ := hx.at_ (by omega)
    injection hA with hA
    subst hA
    have h := u8s_at hAt (j := 0) (b := b) rfl
    rwa [show ad0.add 0 = ad0 by simp [Addr.add]] at h
  have HT := Lib.hid hx.tl
  have HM := Lib.hid hm
  have HK := Lib.hid hk
  have et : tlA (some ad0) c0 1 = some ⟨ad0.block, ad0.off + 1, none⟩ := by unfold tlA; rw [if_neg hc1]; rfl
  rw [et] at HT
  clear et
  clear hk h hm hx hn
  go_enter Tryd.func37, Tryd.ntmps37
  go_wp2_with fail
  refine C1.out.mono ?_
  rintro e w1 ⟨rfl, rfl⟩
  go_wp2_with fail
  go_loopw [1, 6, 7, 33] (fun p z l i wr => ∃ k : Nat, k ≤ n ∧ i = .int .i64 k ∧ ∃ (y : List UInt8) (ds : List V) (ad : Addr) (n1 k1 : Nat), p = .slice (some ad) n1 k1 ∧ z = .int .u8 ((b.toNat / 2 ^ k : Nat) : Int) ∧ y.length = n1 ∧ n1 ≤ 199 ∧ Sl wr w.heap.size 1 (some ad) n1 k1 (u8s y) ∧ ds.length = k ∧ OwnV wr w.heap.size l k (vals ds) ∧ readK ks b.toNat r = (readK (ks.drop k) (b.toNat / 2 ^ k) y).map (fun q => (ds ++ q.1, q.2)) ∧ Below w.heap.size w wr) (fun _ _ _ i _ => n - (intOf i).toNat)
  case atStart => exact ⟨0, by omega, rfl, r, [], _, _, _, rfl, by rw [Nat.pow_zero, Nat.div_one], HM.out, by omega, HT.out, rfl, World.ownsRow_nil _ _ _ _, by rw [List.drop_zero, Nat.pow_zero, Nat.div_one]; simp, Below.refl _ _⟩
  case round =>
    obtain ⟨k, hk, rfl, y, ds, ad, n1, c', rfl, rfl, hyl, hn199, hsl, hds, hown, hrd, hbr⟩ := hrel
    have HS := Lib.hid hsl
    have HY := Lib.hid hyl
    have HD := Lib.hid hds
    have HO := Lib.hid hown
    have HRD := Lib.hid hrd
    have HB := Lib.hid hbr
    have hsz := hbr.size
    have hcap1 := hsl.cap
    have hle1 := hsl.le
    unfold maxLen at hcap1
    clear hsl hyl hds hown hrd hbr
    by_cases hlt : k < n
    rotate_left
    · obtain rfl : k = n := by omega
      have HFIN : Hid (readK ks b.toNat r = some (ds, y)) := Lib.hid (by
        rw [HRD.out, List.drop_of_length_le (by rw [HN0.out]; exact Nat.le_refl _)]
        show some (ds ++ [], y) = _
        rw [List.append_nil])
      by_cases hz : b.toNat / 2 ^ k = 0
      rotate_left
      · have hzi : (((b.toNat / 2 ^ k : Nat) : Int) != 0) = true := by rw [bne_iff_ne]; omega
        have HE : Hid (rRow ks (b :: r) = (3, [])) := Lib.hid (by
          have h5 : 2 ^ ks.length ≤ b.toNat := by
            rcases Nat.lt_or_ge b.toNat (2 ^ k) with h | h
            · exact absurd (Nat.div_eq_of_lt h) hz
            · rw [HN0.out]; exact h
          rw [HR0.out]
          exact if_pos (.inr h5))
        have hz' : ¬ b.toNat / 2 ^ k = 0 := hz
        generalize b.toNat / 2 ^ k = Z at *
        clear hz
        go_wp2_with fail
        go_ret2
        exact rd_no HE.out (by decide) HB.out
      · have HE : Hid (rRow ks (b :: r) = match readK ks b.toNat r with | some (l, []) => (0, l) | _ => (3, [])) := Lib.hid (by
          have h1 : b.toNat < 2 ^ ks.length := by
            rw [HN0.out]
            rcases Nat.lt_or_ge b.toNat (2 ^ k) with h | h
            · exact h
            · have := Nat.div_pos h (Nat.two_pow_pos k); omega
          have h3 := HM.out
          rw [HR0.out]
          exact if_neg (by omega))
        rw [hz]
        clear hz
        cases y with
        | nil =>
          obtain rfl : n1 = 0 := by rw [← HY.out]; rfl
          go_wp2_with fail
          go_ret2
          refine ⟨HB.out, .inl ⟨by rw [HE.out, HFIN.out], u7, rfl, ?_⟩⟩
          rw [HE.out, HFIN.out]
          show OwnV wr w.heap.size u7 ds.length (vals ds)
          rw [HD.out]
          exact HO.out
        | cons zz y =>
          obtain ⟨m1, rfl⟩ : ∃ m1, n1 = m1 + 1 := ⟨y.length, HY.out.symm⟩
          go_wp2_with fail
          go_ret2
          exact rd_no (by rw [HE.out, HFIN.out]) (by decide) HB.out
    have HR : Hid (readK ks b.toNat r = none → rRow ks (b :: r) = (3, [])) := Lib.hid (fun h => by
      rw [HR0.out, h]
      split <;> rfl)
    have hlt' : (k : Int) < n := by omega
    obtain ⟨kb, hkb⟩ : ∃ kb, ks[k]? = some kb := ⟨_, List.getElem?_eq_getElem (by rw [HN0.out]; exact hlt)⟩
    obtain ⟨adk, hAK, hAtk⟩ := HK.out.at_ (by omega)
    subst hAK
    have xk := u8s_at (hAtk.below HB.out) hkb
    have HKB : Hid (kOk kb = true) := Lib.hid (ks_at HKO.out hkb)
    have HSP : Hid (ks.drop k = kb :: ks.drop (k + 1)) := Lib.hid (by obtain ⟨h1, h2⟩ := List.getElem?_eq_some_iff.1 hkb; rw [List.drop_eq_getElem_cons h1, h2])
    have HQ2 : Hid (((b.toNat / 2 ^ k : Nat) : Int) / 2 = ((b.toNat / 2 ^ (k + 1) : Nat) : Int)) := Lib.hid (by rw [Nat.pow_succ, ← Nat.div_div_eq_div_mul]; push_cast; rfl)
    have HQ3 : Hid (b.toNat / 2 ^ k / 2 = b.toNat / 2 ^ (k + 1)) := Lib.hid (by rw [Nat.div_div_eq_div_mul, Nat.pow_succ])
    have HNE : Hid (u7.ownBlock ≠ some wr.heap.size) := Lib.hid (by intro e; have := (World.ownsRow.lt HO.out _ e).2; omega)
    have hzle : b.toNat / 2 ^ k ≤ 255 := by have := Nat.div_le_self b.toNat (2 ^ k); omega
    have hk8 : k + 1 ≤ 8 := by omega
    obtain ⟨Z, hZ⟩ : ∃ Z, b.toNat / 2 ^ k = Z := ⟨_, rfl⟩
    rw [hZ] at HRD HQ2 HQ3 hzle
    rw [hZ]
    clear hkb hAtk hZ
    by_cases hbit : Z % 2 = 1
    · have hb1 : ((Z : Int) % 2 == 1) = true := by rw [beq_iff_eq]; omega
      have HRN : Hid (readK ks b.toNat r = (readK (ks.drop (k + 1)) (b.toNat / 2 ^ (k + 1)) y).map (fun q => ((ds ++ [V.mk 0 0 ⟨#[]⟩ false]) ++ q.1, q.2))) := Lib.hid (by
        rw [HRD.out, HSP.out]
        show (if Z % 2 = 1 then _ else _ : Option _).map _ = _
        rw [if_pos hbit, HQ3.out, Option.map_map]
        congr 1
        funext q
        simp
        rfl)
      have HC := Lib.hid (right_exact 0 0 ⟨#[]⟩ false (by show 0 ≤ _; exact Nat.zero_le _) (wr.alloc (.cells #[.int .u8 0, .int .i64 0, .string ⟨#[]⟩, .bool false] 43)))
      have hr0 : Cell.rightB 0 0 ⟨#[]⟩ false = true := right0
      rw [hr0] at HC
      have HVV := ValAt.new wr ⟨0, 0, ⟨#[]⟩, false⟩ 43
      dsimp only at HVV
      have HV2 := Lib.hid HVV
      clear hr0 HVV hbit
      go_wp2_with fail
      refine HC.out.mono ?_
      rintro e w3 ⟨rfl, hb3⟩
      have HV3 := Lib.hid (HV2.out.below (B := (wr.alloc (.cells #[.int .u8 0, .int .i64 0, .string ⟨#[]⟩, .bool false] 43)).heap.size) (by rw [size_alloc]; show wr.heap.size < _; omega) hb3)
      have HB3 := Lib.hid (Cell.bel_trans (Cell.bel_alloc wr _) hb3)
      clear hb3
      have HTL : Hid (Sl wr w.heap.size 1 (tlA (some ad) c' (0)) n1 (c' - (0)) (u8s (y))) := Lib.hid (Sl.tl (m := n1) (k := 0) HS.out)
      have HLR : Hid ((y).length = n1) := Lib.hid (HY.out)
      obtain ⟨y0, y1, y2, y3⟩ := HV3.out
      dsimp only at y0 y1 y2 y3
      have HBT : Hid (Below wr.heap.size wr (w3)) := Lib.hid (HB3.out)
      have HOT := Lib.hid (ownV_kept HO.out HBT.out)
      have hszT := HBT.out.size
      by_cases hcK : c' = 0
      · subst hcK
        obtain rfl : n1 = 0 := by omega
        have et : tlA (some ad) (0) (0) = some ad := by unfold tlA; rw [if_pos rfl]
        rw [et, Nat.sub_self] at HTL
        clear et
        go_wp2_with fail
        generalize hWt : w3 = Wt at *
        go_region_held3 (fun w' => w'.cell? ⟨wr.heap.size, 0, none⟩ = some (.int .u8 0) ∧ w'.cell? ⟨wr.heap.size, 1, none⟩ = some (.int .i64 0) ∧ w'.cell? ⟨wr.heap.size, 2, none⟩ = some (.string ⟨#[]⟩) ∧ w'.cell? ⟨wr.heap.size, 3, none⟩ = some (.bool false)) (first | go_keep | exact kin4 hgrow5 (by assumption) HNE.out)
          (first | (refine step_app_v (by rfl) _ _ (by rfl) w.heap.size u7 _ _ (by rfl) (HOT.out.alloc _) _ _ 1 _ (by rfl) (lies_lit _ _ _ 4 1 (by rfl)) (one4 _ _ _ _) (by omega) (by rw [sz_ad]; omega) ?_; intro v5 w5 hown5 hgrow5))
        all_goals (
          have hb5 := own_below hgrow5 (by rw [sz_ad]; omega) (HOT.out.alloc _)
          have HB5 := Lib.hid (((HBT.out.mono hsz).trans ((Cell.bel_alloc _ _).mono (by omega)).drew).trans hb5)
          have HO5 := Lib.hid hown5
          clear hown5 hgrow5 hb5
          go_wp2_with fail
          go_roundw
          case rel =>
            refine ⟨k + 1, by omega, by go_num, y, ds ++ [V.mk 0 0 ⟨#[]⟩ false], _, _, _, rfl, by rw [HQ2.out], HLR.out, by omega, HTL.out.below HB5.out, by rw [List.length_append, HD.out]; rfl, own_eqV HO5.out ?_ ?_, HRN.out, HB.out.trans HB5.out⟩
            · rfl
            · rw [vals_app]; rfl
          case measure => simp [intOf] <;> omega)
      · have et : tlA (some ad) c' (0) = some (ad) := by unfold tlA; rw [if_neg hcK]; simp [Addr.add]
        rw [et] at HTL
        clear et
        have hi1 : ((0 : Nat) : Int) ≤ (((n1 + (0) : Nat)) : Int) := by omega
        have hi2 : (((n1 + (0) : Nat)) : Int) ≤ c' := by omega
        have hi3 : ((0 : Nat) : Int) ≤ c' := by omega
        push_cast at hi1 hi2 hi3
        go_wp2_with fail
        generalize hWt : w3 = Wt at *
        go_region_held3 (fun w' => w'.cell? ⟨wr.heap.size, 0, none⟩ = some (.int .u8 0) ∧ w'.cell? ⟨wr.heap.size, 1, none⟩ = some (.int .i64 0) ∧ w'.cell? ⟨wr.heap.size, 2, none⟩ = some (.string ⟨#[]⟩) ∧ w'.cell? ⟨wr.heap.size, 3, none⟩ = some (.bool false)) (first | go_keep | exact kin4 hgrow5 (by assumption) HNE.out)
          (first | (refine step_app_v (by rfl) _ _ (by rfl) w.heap.size u7 _ _ (by rfl) (HOT.out.alloc _) _ _ 1 _ (by rfl) (lies_lit _ _ _ 4 1 (by rfl)) (one4 _ _ _ _) (by omega) (by rw [sz_ad]; omega) ?_; intro v5 w5 hown5 hgrow5))
        all_goals (
          have hb5 := own_below hgrow5 (by rw [sz_ad]; omega) (HOT.out.alloc _)
          have HB5 := Lib.hid (((HBT.out.mono hsz).trans ((Cell.bel_alloc _ _).mono (by omega)).drew).trans hb5)
          have HO5 := Lib.hid hown5
          clear hown5 hgrow5 hb5
          go_wp2_with fail
          go_roundw
          case rel =>
            refine ⟨k + 1, by omega, by go_num, y, ds ++ [V.mk 0 0 ⟨#[]⟩ false], _, _, _, rfl, by rw [HQ2.out], HLR.out, by omega, HTL.out.below HB5.out, by rw [List.length_append, HD.out]; rfl, own_eqV HO5.out ?_ ?_, HRN.out, HB.out.trans HB5.out⟩
            · rfl
            · rw [vals_app]; rfl
          case measure => simp [intOf] <;> omega)
    have hb0 : ((Z : Int) % 2 == 1) = false := by rw [beq_eq_false_iff_ne]; omega
    have HKD := HKB.out
    unfold kOk at HKD
    rw [Bool.or_eq_true, Bool.or_eq_true, beq_iff_eq, beq_iff_eq, beq_iff_eq] at HKD
    have HST : Hid (∀ R, rFirst (kb.toNat : Int) y = R → readK ks b.toNat r = contK (ks.drop (k + 1)) (b.toNat / 2 ^ (k + 1)) ds R) := Lib.hid (fun R hRR => by
      rw [HRD.out, HSP.out]
      show (if Z % 2 = 1 then _ else _ : Option _).map _ = _
      rw [if_neg hbit, HQ3.out, hRR]
      cases R with
      | none => rfl
      | some p =>
        show (Option.map _ _).map _ = Option.map _ _
        rw [Option.map_map]
        congr 1
        funext q
        simp)
    clear hbit
    rcases HKD with (rfl | rfl) | rfl
    · have xk : wr.cell? (adk.add k) = some (.int .u8 1) := xk
      by_cases h8 : n1 < 8
      · have h8' : (n1 : Int) < 8 := by omega
        have HN : Hid (readK ks b.toNat r = none) := Lib.hid (HST.out none (by show rNum y = none; unfold rNum; exact if_neg (by rw [HY.out]; omega)))
        go_wp2_with fail
        go_ret2
        exact rd_no (HR.out HN.out) (by decide) (Cell.bel_trans HB.out (Cell.bel_alloc _ _))
      · obtain ⟨m', rfl⟩ : ∃ m', n1 = m' + 8 := ⟨n1 - 8, by omega⟩
        have h8' : ¬ ((m' : Int) + 8) < 8 := by omega
        have hc8 : (8 : Int) ≤ c' := by omega
        obtain ⟨ad', hA', hAt⟩ := HS.out.at_ (by omega)
        injection hA' with hA'
        subst hA'
        have HA1 := Lib.hid (hAt.below ((Cell.bel_alloc wr (.cells #[.int .u8 1, .int .i64 0, .string ⟨#[]⟩, .bool false] 43)).mono hsz))
        obtain ⟨U, hU⟩ : ∃ U, leN (y.take 8) = U := ⟨_, rfl⟩
        have HU := Lib.hid hU
        have hU64 : U < 18446744073709551616 := by
          have h1 := leN_lt (y.take 8)
          rw [List.length_take, Nat.min_eq_left (by rw [HY.out]; omega), hU] at h1
          exact h1
        obtain ⟨I, hI⟩ : ∃ I, wrap64 (U : Int) = I := ⟨_, rfl⟩
        have HUN := Lib.hid hI
        have HRN : Hid (readK ks b.toNat r = (readK (ks.drop (k + 1)) (b.toNat / 2 ^ (k + 1)) (y.drop 8)).map (fun q => ((ds ++ [V.mk 1 I ⟨#[]⟩ false]) ++ q.1, q.2))) := Lib.hid (HST.out (some (⟨1, I, ⟨#[]⟩, false⟩, y.drop 8)) (by show rNum y = _; unfold rNum; rw [if_pos (by rw [HY.out]; omega), hU, hI]))
        have hr1 : Cell.rightB 1 I ⟨#[]⟩ false = true := right1 I
        have HC := Lib.hid (right_exact 1 I ⟨#[]⟩ false (by show 0 ≤ _; exact Nat.zero_le _) (wr.alloc (.cells #[.int .u8 1, .int .i64 I, .string ⟨#[]⟩, .bool false] 43)))
        rw [hr1] at HC
        have HVV := ValAt.new wr ⟨1, I, ⟨#[]⟩, false⟩ 43
        dsimp only at HVV
        have HV2 := Lib.hid HVV
        clear hAt hU hI hr1 HVV
        go_wp2_with fail
        go_loop [13, 14] (fun u i => ∃ (q : Nat) (t : Int), q ≤ 8 ∧ t = (q : Int) - 1 ∧ i = .int .i64 t ∧ u = .int .u64 (leN ((y.take 8).drop q) : Nat)) (fun _ i => (intOf i + 1).toNat)
        case atStart => exact ⟨8, 7, by omega, by omega, rfl, by rw [List.drop_of_length_le (by rw [List.length_take]; omega)]; rfl⟩
        case round =>
          obtain ⟨q, t, hq, ht, rfl, rfl⟩ := hrel
          cases q with
          | succ q =>
            obtain rfl : t = (q : Int) := by omega
            obtain ⟨d, hd⟩ : ∃ d, y[q]? = some d := ⟨_, List.getElem?_eq_getElem (by rw [HY.out]; omega)⟩
            have w0 := u8s_at HA1.out hd
            have HSS := Lib.hid (leN_front hd (by omega))
            have hlt3 := leN_bd (x := y) (q := q) (by omega)
            have hd8 := d.toNat_lt
            have hqc : (q : Int) < (m' : Int) + 8 := by omega
            have hq0 : (0 : Int) ≤ q := Int.natCast_nonneg _
            generalize leN ((y.take 8).drop (q + 1)) = ZZ at *
            clear hd ht
            go_wp2_with fail
            go_round
            case rel =>
              refine ⟨q, (q : Int) - 1, by omega, rfl, rfl, ?_⟩
              rw [HSS.out]
              congr 1
              all_goals (first | omega | (simp only [IntKind.wrap_u64]; omega))
            case measure => simp [intOf] <;> omega
          | zero =>
            obtain rfl : t = -1 := by omega
            rw [List.drop_zero, HU.out]
            clear ht
            go_wp2_with fail
            try simp only [HUN.out]
            refine HC.out.mono ?_
            rintro e w3 ⟨rfl, hb3⟩
            have HV3 := Lib.hid (HV2.out.below (B := (wr.alloc (.cells #[.int .u8 1, .int .i64 I, .string ⟨#[]⟩, .bool false] 43)).heap.size) (by rw [size_alloc]; show wr.heap.size < _; omega) hb3)
            have HB3 := Lib.hid (Cell.bel_trans (Cell.bel_alloc wr _) hb3)
            clear hb3
            have HTL : Hid (Sl wr w.heap.size 1 (tlA (some ad) c' (8)) m' (c' - (8)) (u8s (y.drop 8))) := Lib.hid (Sl.tl (m := m') (k := 8) HS.out)
            have HLR : Hid ((y.drop 8).length = m') := Lib.hid (by rw [List.length_drop, HY.out]; omega)
            obtain ⟨y0, y1, y2, y3⟩ := HV3.out
            dsimp only at y0 y1 y2 y3
            have HBT : Hid (Below wr.heap.size wr (w3)) := Lib.hid (HB3.out)
            have HOT := Lib.hid (ownV_kept HO.out HBT.out)
            have hszT := HBT.out.size
            by_cases hcK : c' = 8
            · subst hcK
              obtain rfl : m' = 0 := by omega
              have et : tlA (some ad) (8) (8) = some ad := by unfold tlA; rw [if_pos rfl]
              rw [et, Nat.sub_self] at HTL
              clear et
              go_wp2_with fail
              generalize hWt : w3 = Wt at *
              go_region_held3 (fun w' => w'.cell? ⟨wr.heap.size, 0, none⟩ = some (.int .u8 1) ∧ w'.cell? ⟨wr.heap.size, 1, none⟩ = some (.int .i64 I) ∧ w'.cell? ⟨wr.heap.size, 2, none⟩ = some (.string ⟨#[]⟩) ∧ w'.cell? ⟨wr.heap.size, 3, none⟩ = some (.bool false)) (first | go_keep | exact kin4 hgrow5 (by assumption) HNE.out)
                (first | (refine step_app_v (by rfl) _ _ (by rfl) w.heap.size u7 _ _ (by rfl) (HOT.out.alloc _) _ _ 1 _ (by rfl) (lies_lit _ _ _ 4 1 (by rfl)) (one4 _ _ _ _) (by omega) (by rw [sz_ad]; omega) ?_; intro v5 w5 hown5 hgrow5))
              all_goals (
                have hb5 := own_below hgrow5 (by rw [sz_ad]; omega) (HOT.out.alloc _)
                have HB5 := Lib.hid (((HBT.out.mono hsz).trans ((Cell.bel_alloc _ _).mono (by omega)).drew).trans hb5)
                have HO5 := Lib.hid hown5
                clear hown5 hgrow5 hb5
                go_wp2_with fail
                go_roundw
                case rel =>
                  refine ⟨k + 1, by omega, by go_num, y.drop 8, ds ++ [V.mk 1 I ⟨#[]⟩ false], _, _, _, rfl, by rw [HQ2.out], HLR.out, by omega, HTL.out.below HB5.out, by rw [List.length_append, HD.out]; rfl, own_eqV HO5.out ?_ ?_, HRN.out, HB.out.trans HB5.out⟩
                  · rfl
                  · rw [vals_app]; rfl
                case measure => simp [intOf] <;> omega)
            · have et : tlA (some ad) c' (8) = some (⟨ad.block, ad.off + 8, none⟩) := by unfold tlA; rw [if_neg hcK]; rfl
              rw [et] at HTL
              clear et
              have hi1 : ((8 : Nat) : Int) ≤ (((m' + (8) : Nat)) : Int) := by omega
              have hi2 : (((m' + (8) : Nat)) : Int) ≤ c' := by omega
              have hi3 : ((8 : Nat) : Int) ≤ c' := by omega
              push_cast at hi1 hi2 hi3
              go_wp2_with fail
              generalize hWt : w3 = Wt at *
              go_region_held3 (fun w' => w'.cell? ⟨wr.heap.size, 0, none⟩ = some (.int .u8 1) ∧ w'.cell? ⟨wr.heap.size, 1, none⟩ = some (.int .i64 I) ∧ w'.cell? ⟨wr.heap.size, 2, none⟩ = some (.string ⟨#[]⟩) ∧ w'.cell? ⟨wr.heap.size, 3, none⟩ = some (.bool false)) (first | go_keep | exact kin4 hgrow5 (by assumption) HNE.out)
                (first | (refine step_app_v (by rfl) _ _ (by rfl) w.heap.size u7 _ _ (by rfl) (HOT.out.alloc _) _ _ 1 _ (by rfl) (lies_lit _ _ _ 4 1 (by rfl)) (one4 _ _ _ _) (by omega) (by rw [sz_ad]; omega) ?_; intro v5 w5 hown5 hgrow5))
              all_goals (
                have hb5 := own_below hgrow5 (by rw [sz_ad]; omega) (HOT.out.alloc _)
                have HB5 := Lib.hid (((HBT.out.mono hsz).trans ((Cell.bel_alloc _ _).mono (by omega)).drew).trans hb5)
                have HO5 := Lib.hid hown5
                clear hown5 hgrow5 hb5
                go_wp2_with fail
                go_roundw
                case rel =>
                  refine ⟨k + 1, by omega, by go_num, y.drop 8, ds ++ [V.mk 1 I ⟨#[]⟩ false], _, _, _, rfl, by rw [HQ2.out], HLR.out, by omega, HTL.out.below HB5.out, by rw [List.length_append, HD.out]; rfl, own_eqV HO5.out ?_ ?_, HRN.out, HB.out.trans HB5.out⟩
                  · rfl
                  · rw [vals_app]; rfl
                case measure => simp [intOf] <;> omega)
    · have xk : wr.cell? (adk.add k) = some (.int .u8 2) := xk
      cases y with
      | nil =>
        obtain rfl : n1 = 0 := by rw [← HY.out]; rfl
        have HN : Hid (readK ks b.toNat r = none) := Lib.hid (HST.out none rfl)
        go_wp2_with fail
        go_ret2
        exact rd_no (HR.out HN.out) (by decide) (Cell.bel_trans HB.out (Cell.bel_alloc _ _))
      | cons a y =>
        obtain ⟨m1, rfl⟩ : ∃ m1, n1 = m1 + 1 := ⟨y.length, HY.out.symm⟩
        have HYL : Hid (y.length = m1) := Lib.hid (by simpa using HY.out)
        obtain ⟨ad', hA', hAt⟩ := HS.out.at_ (by omega)
        injection hA' with hA'
        subst hA'
        have HB1 : Hid (Below wr.heap.size wr (wr.alloc (.cells #[.int .u8 2, .int .i64 0, .string ⟨#[]⟩, .bool false] 43))) := Lib.hid (Cell.bel_alloc _ _)
        have v0 : (wr.alloc (.cells #[.int .u8 2, .int .i64 0, .string ⟨#[]⟩, .bool false] 43)).cell? ad = some (.int .u8 (a.toNat : Int)) := by
          have h := u8s_at (hAt.below (HB1.out.mono hsz)) (j := 0) (b := a) rfl
          rwa [show ad.add 0 = ad by simp [Addr.add]] at h
        have ha8 := a.toNat_lt
        obtain ⟨z, hz⟩ : ∃ z, a.toNat = z := ⟨_, rfl⟩
        rw [hz] at v0 ha8
        by_cases hs : m1 < z
        · have hs' : ((m1 : Int) + 1) < 1 + (z : Int) := by omega
          have HN : Hid (readK ks b.toNat r = none) := Lib.hid (HST.out none (by show rText (a :: y) = none; simp only [rText]; exact if_neg (by rw [hz, HYL.out]; omega)))
          have h1' : ¬ ((m1 : Int) + 1) < 1 := by omega
          clear hAt hz
          go_wp2_with fail
          go_ret2
          exact rd_no (HR.out HN.out) (by decide) (Cell.bel_trans HB.out (Cell.bel_alloc _ _))
        · obtain ⟨m', rfl⟩ : ∃ m', m1 = m' + z := ⟨m1 - z, by omega⟩
          have hst : (str (y.take z)).size ≤ maxLen := by
            show (y.take z).toArray.size ≤ _
            rw [List.size_toArray, List.length_take]
            unfold maxLen
            omega
          have hT1 : Sl wr w.heap.size 1 (tlA (some ad) c' 1) (m' + z) (c' - 1) (u8s y) := Sl.tl (m := m' + z) (k := 1) HS.out
          have hT2 := hT1.take (k := z) (by omega)
          rw [Nat.mul_one, u8s_take] at hT2
          have hcv := conv_sl (hT2.below (HB1.out.mono hsz))
          obtain ⟨S, hS⟩ : ∃ S, str (y.take z) = S := ⟨_, rfl⟩
          rw [hS] at hcv hst
          have HFT : Hid (rFirst 2 (a :: y) = if (⟨2, 0, S, false⟩ : V).right then some (⟨2, 0, S, false⟩, y.drop z) else none) := Lib.hid (by
            show rText (a :: y) = _
            simp only [rText]
            rw [hz, if_pos (by rw [HYL.out]; omega), hS])
          have HVV := ValAt.new wr ⟨2, 0, S, false⟩ 43
          dsimp only at HVV
          have HV2 := Lib.hid HVV
          have HC := Lib.hid (right_exact 2 0 S false hst (wr.alloc (.cells #[.int .u8 2, .int .i64 0, .string S, .bool false] 43)))
          have hs' : ¬ ((m' : Int) + (z : Int) + 1) < 1 + (z : Int) := by omega
          have h1' : ¬ ((m' : Int) + (z : Int) + 1) < 1 := by omega
          have hb1 : (1 : Int) + (z : Int) ≤ c' := by omega
          have hb2 : (1 : Int) + (z : Int) ≤ (m' : Int) + (z : Int) + 1 := by omega
          have HS' : Hid (Sl wr w.heap.size 1 (some ad) (m' + (1 + z)) c' (u8s (a :: y))) := Lib.hid (by have h := HS.out; rwa [show m' + z + 1 = m' + (1 + z) by omega] at h)
          clear HS
          have HS := HS'
          clear HS' hAt hT1 hT2 hS hst HVV hz
          by_cases hcA : c' = 1
          · subst hcA
            obtain rfl : z = 0 := by omega
            obtain rfl : m' = 0 := by omega
            have et1 : tlA (some ad) 1 1 = some ad := rfl
            rw [et1] at hcv
            cases hr : Cell.rightB 2 0 S false
            · rw [hr] at HC
              have HN : Hid (readK ks b.toNat r = none) := Lib.hid (HST.out none (by show rFirst 2 (a :: y) = none; rw [HFT.out]; exact if_neg (by show ¬ Cell.rightB 2 0 S false = true; rw [hr]; decide)))
              clear hr
              go_wp2_with fail
              refine HC.out.mono ?_
              rintro e w3 ⟨rfl, hb3⟩
              have HB3 := Lib.hid (Cell.bel_trans (Cell.bel_alloc wr _) hb3)
              clear hb3
              go_wp2_with fail
              go_ret2
              exact rd_no (HR.out HN.out) (by decide) (HB.out.trans (HB3.out.mono hsz))
            · rw [hr] at HC
              have HRN : Hid (readK ks b.toNat r = (readK (ks.drop (k + 1)) (b.toNat / 2 ^ (k + 1)) (y.drop 0)).map (fun q => ((ds ++ [V.mk 2 0 S false]) ++ q.1, q.2))) := Lib.hid (HST.out (some (⟨2, 0, S, false⟩, y.drop 0)) (by show rFirst 2 (a :: y) = _; rw [HFT.out]; exact if_pos hr))
              clear hr
              go_wp2_with fail
              refine HC.out.mono ?_
              rintro e w3 ⟨rfl, hb3⟩
              have HV3 := Lib.hid (HV2.out.below (B := (wr.alloc (.cells #[.int .u8 2, .int .i64 0, .string S, .bool false] 43)).heap.size) (by rw [size_alloc]; show wr.heap.size < _; omega) hb3)
              have HB3 := Lib.hid (Cell.bel_trans (Cell.bel_alloc wr _) hb3)
              clear hb3
              have HTL : Hid (Sl wr w.heap.size 1 (tlA (some ad) 1 (1)) 0 (1 - (1)) (u8s (y.drop 0))) := Lib.hid (by have h := Sl.tl (m := 0) (k := 1) HS.out; exact h)
              have HLR : Hid ((y.drop 0).length = 0) := Lib.hid (by rw [List.length_drop, HYL.out]; try omega)
              obtain ⟨y0, y1, y2, y3⟩ := HV3.out
              dsimp only at y0 y1 y2 y3
              have HBT : Hid (Below wr.heap.size wr (w3)) := Lib.hid (HB3.out)
              have HOT := Lib.hid (ownV_kept HO.out HBT.out)
              have hszT := HBT.out.size
              have hcK : True := trivial
              clear hcK
              have et : tlA (some ad) (1) (1) = some ad := by unfold tlA; rw [if_pos rfl]
              rw [et, Nat.sub_self] at HTL
              clear et
              go_wp2_with fail
              generalize hWt : w3 = Wt at *
              go_region_held3 (fun w' => w'.cell? ⟨wr.heap.size, 0, none⟩ = some (.int .u8 2) ∧ w'.cell? ⟨wr.heap.size, 1, none⟩ = some (.int .i64 0) ∧ w'.cell? ⟨wr.heap.size, 2, none⟩ = some (.string S) ∧ w'.cell? ⟨wr.heap.size, 3, none⟩ = some (.bool false)) (first | go_keep | exact kin4 hgrow5 (by assumption) HNE.out)
                (first | (refine step_app_v (by rfl) _ _ (by rfl) w.heap.size u7 _ _ (by rfl) (HOT.out.alloc _) _ _ 1 _ (by rfl) (lies_lit _ _ _ 4 1 (by rfl)) (one4 _ _ _ _) (by omega) (by rw [sz_ad]; omega) ?_; intro v5 w5 hown5 hgrow5))
              all_goals (
                have hb5 := own_below hgrow5 (by rw [sz_ad]; omega) (HOT.out.alloc _)
                have HB5 := Lib.hid (((HBT.out.mono hsz).trans ((Cell.bel_alloc _ _).mono (by omega)).drew).trans hb5)
                have HO5 := Lib.hid hown5
                clear hown5 hgrow5 hb5
                go_wp2_with fail
                go_roundw
                case rel =>
                  refine ⟨k + 1, by omega, by go_num, y.drop 0, ds ++ [V.mk 2 0 S false], _, _, _, rfl, by rw [HQ2.out], by have h := HLR.out; omega, by omega, sl_n (HTL.out.below HB5.out) (by omega) (by omega), by rw [List.length_append, HD.out]; rfl, own_eqV HO5.out ?_ ?_, HRN.out, HB.out.trans HB5.out⟩
                  · rfl
                  · rw [vals_app]; rfl
                case measure => simp [intOf] <;> omega)
          · have hc1' : ¬ c' = 1 := hcA
            rw [show tlA (some ad) c' 1 = some ⟨ad.block, ad.off + 1, none⟩ by unfold tlA; rw [if_neg hcA]; rfl] at hcv
            cases hr : Cell.rightB 2 0 S false
            · rw [hr] at HC
              have HN : Hid (readK ks b.toNat r = none) := Lib.hid (HST.out none (by show rFirst 2 (a :: y) = none; rw [HFT.out]; exact if_neg (by show ¬ Cell.rightB 2 0 S false = true; rw [hr]; decide)))
              clear hr
              go_wp2_with fail
              refine HC.out.mono ?_
              rintro e w3 ⟨rfl, hb3⟩
              have HB3 := Lib.hid (Cell.bel_trans (Cell.bel_alloc wr _) hb3)
              clear hb3
              go_wp2_with fail
              go_ret2
              exact rd_no (HR.out HN.out) (by decide) (HB.out.trans (HB3.out.mono hsz))
            · rw [hr] at HC
              have HRN : Hid (readK ks b.toNat r = (readK (ks.drop (k + 1)) (b.toNat / 2 ^ (k + 1)) (y.drop z)).map (fun q => ((ds ++ [V.mk 2 0 S false]) ++ q.1, q.2))) := Lib.hid (HST.out (some (⟨2, 0, S, false⟩, y.drop z)) (by show rFirst 2 (a :: y) = _; rw [HFT.out]; exact if_pos hr))
              clear hr
              go_wp2_with fail
              refine HC.out.mono ?_
              rintro e w3 ⟨rfl, hb3⟩
              have HV3 := Lib.hid (HV2.out.below (B := (wr.alloc (.cells #[.int .u8 2, .int .i64 0, .string S, .bool false] 43)).heap.size) (by rw [size_alloc]; show wr.heap.size < _; omega) hb3)
              have HB3 := Lib.hid (Cell.bel_trans (Cell.bel_alloc wr _) hb3)
              clear hb3
              have HTL : Hid (Sl wr w.heap.size 1 (tlA (some ad) c' (1 + z)) m' (c' - (1 + z)) (u8s (y.drop z))) := Lib.hid (by have h := Sl.tl (m := m') (k := 1 + z) HS.out; rwa [show (a :: y).drop (1 + z) = y.drop z by rw [Nat.add_comm]; rfl] at h)
              have HLR : Hid ((y.drop z).length = m') := Lib.hid (by rw [List.length_drop, HYL.out]; try omega)
              obtain ⟨y0, y1, y2, y3⟩ := HV3.out
              dsimp only at y0 y1 y2 y3
              have HBT : Hid (Below wr.heap.size wr (w3)) := Lib.hid (HB3.out)
              have HOT := Lib.hid (ownV_kept HO.out HBT.out)
              have hszT := HBT.out.size
              by_cases hcK : c' = 1 + z
              · subst hcK
                obtain rfl : m' = 0 := by omega
                have et : tlA (some ad) (1 + z) (1 + z) = some ad := by unfold tlA; rw [if_pos rfl]
                rw [et, Nat.sub_self] at HTL
                clear et
                go_wp2_with fail
                have t1 : (0 : Int) ≤ 1 + (z : Int) := by omega
                have t2 : (1 + (z : Int)).toNat = 1 + z := by omega
                have t3 : IntKind.i64.wrap (1 + (z : Int)) = 1 + z := by rw [IntKind.wrap_i64]; omega
                have t5 : 1 + (z : Int) ≤ 1 + (z : Int) := Int.le_refl _
                have t6 : 1 + (z : Int) ≤ (z : Int) + 1 := by omega
                have t7 : (z : Int) + 1 ≤ 1 + (z : Int) := by omega
                generalize hWt : w3 = Wt at *
                go_region_held3 (fun w' => w'.cell? ⟨wr.heap.size, 0, none⟩ = some (.int .u8 2) ∧ w'.cell? ⟨wr.heap.size, 1, none⟩ = some (.int .i64 0) ∧ w'.cell? ⟨wr.heap.size, 2, none⟩ = some (.string S) ∧ w'.cell? ⟨wr.heap.size, 3, none⟩ = some (.bool false)) (first | go_keep | exact kin4 hgrow5 (by assumption) HNE.out)
                  (first | (refine step_app_v (by rfl) _ _ (by rfl) w.heap.size u7 _ _ (by rfl) (HOT.out.alloc _) _ _ 1 _ (by rfl) (lies_lit _ _ _ 4 1 (by rfl)) (one4 _ _ _ _) (by omega) (by rw [sz_ad]; omega) ?_; intro v5 w5 hown5 hgrow5))
                all_goals (
                  have hb5 := own_below hgrow5 (by rw [sz_ad]; omega) (HOT.out.alloc _)
                  have HB5 := Lib.hid (((HBT.out.mono hsz).trans ((Cell.bel_alloc _ _).mono (by omega)).drew).trans hb5)
                  have HO5 := Lib.hid hown5
                  clear hown5 hgrow5 hb5
                  go_wp2_with fail
                  go_roundw
                  case rel =>
                    refine ⟨k + 1, by omega, by go_num, y.drop z, ds ++ [V.mk 2 0 S false], _, _, _, rfl, by rw [HQ2.out], by have h := HLR.out; omega, by omega, sl_n (HTL.out.below HB5.out) (by omega) (by omega), by rw [List.length_append, HD.out]; rfl, own_eqV HO5.out ?_ ?_, HRN.out, HB.out.trans HB5.out⟩
                    · rfl
                    · rw [vals_app]; rfl
                  case measure => simp [intOf] <;> omega)
              · have et : tlA (some ad) c' (1 + z) = some (ad.add (1 + z)) := by unfold tlA; rw [if_neg hcK]; rfl
                rw [et] at HTL
                clear et
                have hi1 : ((1 + z : Nat) : Int) ≤ (((m' + (1 + z) : Nat)) : Int) := by omega
                have hi2 : (((m' + (1 + z) : Nat)) : Int) ≤ c' := by omega
                have hi3 : ((1 + z : Nat) : Int) ≤ c' := by omega
                push_cast at hi1 hi2 hi3
                go_wp2_with fail
                have t1 : (0 : Int) ≤ 1 + (z : Int) := by omega
                have t2 : (1 + (z : Int)).toNat = 1 + z := by omega
                have t3 : IntKind.i64.wrap (1 + (z : Int)) = 1 + z := by rw [IntKind.wrap_i64]; omega
                have t5 : 1 + (z : Int) ≤ c' := by omega
                have t6 : 1 + (z : Int) ≤ (m' : Int) + (1 + (z : Int)) := by omega
                have t7 : (m' : Int) + (1 + (z : Int)) ≤ c' := by omega
                generalize hWt : w3 = Wt at *
                go_region_held3 (fun w' => w'.cell? ⟨wr.heap.size, 0, none⟩ = some (.int .u8 2) ∧ w'.cell? ⟨wr.heap.size, 1, none⟩ = some (.int .i64 0) ∧ w'.cell? ⟨wr.heap.size, 2, none⟩ = some (.string S) ∧ w'.cell? ⟨wr.heap.size, 3, none⟩ = some (.bool false)) (first | go_keep | exact kin4 hgrow5 (by assumption) HNE.out)
                  (first | (refine step_app_v (by rfl) _ _ (by rfl) w.heap.size u7 _ _ (by rfl) (HOT.out.alloc _) _ _ 1 _ (by rfl) (lies_lit _ _ _ 4 1 (by rfl)) (one4 _ _ _ _) (by omega) (by rw [sz_ad]; omega) ?_; intro v5 w5 hown5 hgrow5))
                all_goals (
                  have hb5 := own_below hgrow5 (by rw [sz_ad]; omega) (HOT.out.alloc _)
                  have HB5 := Lib.hid (((HBT.out.mono hsz).trans ((Cell.bel_alloc _ _).mono (by omega)).drew).trans hb5)
                  have HO5 := Lib.hid hown5
                  clear hown5 hgrow5 hb5
                  go_wp2_with fail
                  go_roundw
                  case rel =>
                    refine ⟨k + 1, by omega, by go_num, y.drop z, ds ++ [V.mk 2 0 S false], _, _, _, rfl, by rw [HQ2.out], by have h := HLR.out; omega, by omega, sl_n (HTL.out.below HB5.out) (by omega) (by omega), by rw [List.length_append, HD.out]; rfl, own_eqV HO5.out ?_ ?_, HRN.out, HB.out.trans HB5.out⟩
                    · rfl
                    · rw [vals_app]; rfl
                  case measure => simp [intOf] <;> omega)
    · have xk : wr.cell? (adk.add k) = some (.int .u8 3) := xk
      cases y with
      | nil =>
        obtain rfl : n1 = 0 := by rw [← HY.out]; rfl
        have HN : Hid (readK ks b.toNat r = none) := Lib.hid (HST.out none rfl)
        go_wp2_with fail
        go_ret2
        exact rd_no (HR.out HN.out) (by decide) (Cell.bel_trans HB.out (Cell.bel_alloc _ _))
      | cons a y =>
        obtain ⟨m', rfl⟩ : ∃ m', n1 = m' + 1 := ⟨y.length, HY.out.symm⟩
        have HYL : Hid (y.length = m') := Lib.hid (by simpa using HY.out)
        obtain ⟨ad', hA', hAt⟩ := HS.out.at_ (by omega)
        injection hA' with hA'
        subst hA'
        have HB1 : Hid (Below wr.heap.size wr (wr.alloc (.cells #[.int .u8 3, .int .i64 0, .string ⟨#[]⟩, .bool false] 43))) := Lib.hid (Cell.bel_alloc _ _)
        have v0 : (wr.alloc (.cells #[.int .u8 3, .int .i64 0, .string ⟨#[]⟩, .bool false] 43)).cell? ad = some (.int .u8 (a.toNat : Int)) := by
          have h := u8s_at (hAt.below (HB1.out.mono hsz)) (j := 0) (b := a) rfl
          rwa [show ad.add 0 = ad by simp [Addr.add]] at h
        have h1' : ¬ ((m' : Int) + 1) < 1 := by omega
        clear hAt
        by_cases ha : a.toNat ≤ 1
        rotate_left
        · have ha' : (1 : Int) < a.toNat := by omega
          have HN : Hid (readK ks b.toNat r = none) := Lib.hid (HST.out none (if_neg ha))
          go_wp2_with fail
          go_ret2
          exact rd_no (HR.out HN.out) (by decide) (Cell.bel_trans HB.out (Cell.bel_alloc _ _))
        · have ha' : ¬ (1 : Int) < a.toNat := by omega
          have hq : ((a.toNat : Int) == 1) = (a == 1) := by
            rw [Bool.eq_iff_iff]
            simp only [beq_iff_eq]
            constructor
            · intro h; exact UInt8.toNat_inj.1 (by show a.toNat = 1; omega)
            · rintro rfl; rfl
          obtain ⟨q, hqq⟩ : ∃ q, (a == 1) = q := ⟨_, rfl⟩
          rw [hqq] at hq
          have HRN : Hid (readK ks b.toNat r = (readK (ks.drop (k + 1)) (b.toNat / 2 ^ (k + 1)) y).map (fun t => ((ds ++ [V.mk 3 0 ⟨#[]⟩ q]) ++ t.1, t.2))) := Lib.hid (HST.out (some (⟨3, 0, ⟨#[]⟩, q⟩, y)) (by rw [← hqq]; exact if_pos ha))
          have hr3 : Cell.rightB 3 0 ⟨#[]⟩ q = true := right3 q
          have HC := Lib.hid (right_exact 3 0 ⟨#[]⟩ q (by show 0 ≤ _; exact Nat.zero_le _) (wr.alloc (.cells #[.int .u8 3, .int .i64 0, .string ⟨#[]⟩, .bool q] 43)))
          rw [hr3] at HC
          have HVV := ValAt.new wr ⟨3, 0, ⟨#[]⟩, q⟩ 43
          dsimp only at HVV
          have HV2 := Lib.hid HVV
          clear hqq hr3 HVV ha
          go_wp2_with fail
          refine HC.out.mono ?_
          rintro e w3 ⟨rfl, hb3⟩
          have HV3 := Lib.hid (HV2.out.below (B := (wr.alloc (.cells #[.int .u8 3, .int .i64 0, .string ⟨#[]⟩, .bool q] 43)).heap.size) (by rw [size_alloc]; show wr.heap.size < _; omega) hb3)
          have HB3 := Lib.hid (Cell.bel_trans (Cell.bel_alloc wr _) hb3)
          clear hb3
          have HTL : Hid (Sl wr w.heap.size 1 (tlA (some ad) c' (1)) m' (c' - (1)) (u8s (y))) := Lib.hid (Sl.tl (m := m') (k := 1) HS.out)
          have HLR : Hid ((y).length = m') := Lib.hid (HYL.out)
          obtain ⟨y0, y1, y2, y3⟩ := HV3.out
          dsimp only at y0 y1 y2 y3
          have HBT : Hid (Below wr.heap.size wr (w3)) := Lib.hid (HB3.out)
          have HOT := Lib.hid (ownV_kept HO.out HBT.out)
          have hszT := HBT.out.size
          by_cases hcK : c' = 1
          · subst hcK
            obtain rfl : m' = 0 := by omega
            have et : tlA (some ad) (1) (1) = some ad := by unfold tlA; rw [if_pos rfl]
            rw [et, Nat.sub_self] at HTL
            clear et
            go_wp2_with fail
            generalize hWt : w3 = Wt at *
            go_region_held3 (fun w' => w'.cell? ⟨wr.heap.size, 0, none⟩ = some (.int .u8 3) ∧ w'.cell? ⟨wr.heap.size, 1, none⟩ = some (.int .i64 0) ∧ w'.cell? ⟨wr.heap.size, 2, none⟩ = some (.string ⟨#[]⟩) ∧ w'.cell? ⟨wr.heap.size, 3, none⟩ = some (.bool q)) (first | go_keep | exact kin4 hgrow5 (by assumption) HNE.out)
              (first | (refine step_app_v (by rfl) _ _ (by rfl) w.heap.size u7 _ _ (by rfl) (HOT.out.alloc _) _ _ 1 _ (by rfl) (lies_lit _ _ _ 4 1 (by rfl)) (one4 _ _ _ _) (by omega) (by rw [sz_ad]; omega) ?_; intro v5 w5 hown5 hgrow5))
            all_goals (
              have hb5 := own_below hgrow5 (by rw [sz_ad]; omega) (HOT.out.alloc _)
              have HB5 := Lib.hid (((HBT.out.mono hsz).trans ((Cell.bel_alloc _ _).mono (by omega)).drew).trans hb5)
              have HO5 := Lib.hid hown5
              clear hown5 hgrow5 hb5
              go_wp2_with fail
              go_roundw
              case rel =>
                refine ⟨k + 1, by omega, by go_num, y, ds ++ [V.mk 3 0 ⟨#[]⟩ q], _, _, _, rfl, by rw [HQ2.out], HLR.out, by omega, HTL.out.below HB5.out, by rw [List.length_append, HD.out]; rfl, own_eqV HO5.out ?_ ?_, HRN.out, HB.out.trans HB5.out⟩
                · rfl
                · rw [vals_app]; rfl
              case measure => simp [intOf] <;> omega)
          · have et : tlA (some ad) c' (1) = some (⟨ad.block, ad.off + 1, none⟩) := by unfold tlA; rw [if_neg hcK]; rfl
            rw [et] at HTL
            clear et
            have hi1 : ((1 : Nat) : Int) ≤ (((m' + (1) : Nat)) : Int) := by omega
            have hi2 : (((m' + (1) : Nat)) : Int) ≤ c' := by omega
            have hi3 : ((1 : Nat) : Int) ≤ c' := by omega
            push_cast at hi1 hi2 hi3
            go_wp2_with fail
            generalize hWt : w3 = Wt at *
            go_region_held3 (fun w' => w'.cell? ⟨wr.heap.size, 0, none⟩ = some (.int .u8 3) ∧ w'.cell? ⟨wr.heap.size, 1, none⟩ = some (.int .i64 0) ∧ w'.cell? ⟨wr.heap.size, 2, none⟩ = some (.string ⟨#[]⟩) ∧ w'.cell? ⟨wr.heap.size, 3, none⟩ = some (.bool q)) (first | go_keep | exact kin4 hgrow5 (by assumption) HNE.out)
              (first | (refine step_app_v (by rfl) _ _ (by rfl) w.heap.size u7 _ _ (by rfl) (HOT.out.alloc _) _ _ 1 _ (by rfl) (lies_lit _ _ _ 4 1 (by rfl)) (one4 _ _ _ _) (by omega) (by rw [sz_ad]; omega) ?_; intro v5 w5 hown5 hgrow5))
            all_goals (
              have hb5 := own_below hgrow5 (by rw [sz_ad]; omega) (HOT.out.alloc _)
              have HB5 := Lib.hid (((HBT.out.mono hsz).trans ((Cell.bel_alloc _ _).mono (by omega)).drew).trans hb5)
              have HO5 := Lib.hid hown5
              clear hown5 hgrow5 hb5
              go_wp2_with fail
              go_roundw
              case rel =>
                refine ⟨k + 1, by omega, by go_num, y, ds ++ [V.mk 3 0 ⟨#[]⟩ q], _, _, _, rfl, by rw [HQ2.out], HLR.out, by omega, HTL.out.below HB5.out, by rw [List.length_append, HD.out]; rfl, own_eqV HO5.out ?_ ?_, HRN.out, HB.out.trans HB5.out⟩
                · rfl
                · rw [vals_app]; rfl
              case measure => simp [intOf] <;> omega)
theorem refread4_6 (ks r : List UInt8) (b : UInt8) (n c : Nat) (A : Option Addr) (ad0 : Addr) (m c0 : Nat) (w : World) (hn : ks.length = n) (hk : Sl w w.heap.size 1 A n c (u8s ks)) (h : ksOk ks = true) (hm : r.length = m) (h2 : m + 1 ≤ 200) (hx : Sl w w.heap.size 1 (some ad0) (m + 1) c0 (u8s (b :: r))) (hc1 : c0 = 1) :
    Calls Tryd.prog 37 #[.slice A n c, .slice (some ad0) (m + 1 : Nat) c0] w (RdPost (rRow ks (b :: r)) w) := by
  have C1 := Lib.hid (refkinds_any ks A n c w hk)
  have HR0 : Hid (rRow ks (b :: r) = if 200 < r.length + 1 ∨ 2 ^ ks.length ≤ b.toNat then ((3 : Int), ([] : List V)) else match readK ks b.toNat r with | some (l, []) => (0, l) | _ => (3, [])) := Lib.hid (by unfold rRow; rw [h]; rfl)
  have HKO := Lib.hid h
  have HN0 := Lib.hid hn
  have hn8 := ksOk_len h
  rw [hn] at hn8
  obtain ⟨hn1, hn8⟩ := hn8
  rw [h] at C1
  have hb8 := b.toNat_lt
  have h2' : ¬ (200 : Int) < (m : Int) + 1 := by omega
  have h2'' : ¬ ((m : Int) + 1) < 1 := by omega
  have hle := hx.le
  have hcap := hx.cap
  unfold maxLen at hcap
  have x0 : w.cell? ad0 = some (.int .u8 (b.toNat : Int)) := by
    obtain ⟨ad', hA, hAt⟩ := hx.at_ (by omega)
    injection hA with hA
    subst hA
    have h := u8s_at hAt (j := 0) (b := b) rfl
    rwa [show ad0.add 0 = ad0 by simp [Addr.add]] at h
  have HT := Lib.hid hx.tl
  have HM := Lib.hid hm
  have HK := Lib.hid hk
  subst hc1
  obtain rfl : m = 0 := by omega
  have et : tlA (some ad0) 1 1 = some ad0 := rfl
  rw [et] at HT
  clear et
  clear hk h hm hx hn
  go_enter Tryd.func37, Tryd.ntmps37
  go_wp2_with fail
  refine C1.out.mono ?_
  rintro e w1 ⟨rfl, rfl⟩
  go_wp2_with fail
  go_loopw [1, 6, 7, 33] (fun p z l i wr => ∃ k : Nat, k ≤ n ∧ i = .int .i64 k ∧ ∃ (y : List UInt8) (ds : List V) (ad : Addr) (n1 k1 : Nat), p = .slice (some ad) n1 k1 ∧ z = .int .u8 ((b.toNat / 2 ^ k : Nat) : Int) ∧ y.length = n1 ∧ n1 ≤ 199 ∧ Sl wr w.heap.size 1 (some ad) n1 k1 (u8s y) ∧ ds.length = k ∧ OwnV wr w.heap.size l k (vals ds) ∧ readK ks b.toNat r = (readK (ks.drop k) (b.toNat / 2 ^ k) y).map (fun q => (ds ++ q.1, q.2)) ∧ Below w.heap.size w wr) (fun _ _ _ i _ => n - (intOf i).toNat)
  case atStart => exact ⟨0, by omega, rfl, r, [], _, _, _, rfl, by rw [Nat.pow_zero, Nat.div_one], HM.out, by omega, HT.out, rfl, World.ownsRow_nil _ _ _ _, by rw [List.drop_zero, Nat.pow_zero, Nat.div_one]; simp, Below.refl _ _⟩
  case round =>
    obtain ⟨k, hk, rfl, y, ds, ad, n1, c', rfl, rfl, hyl, hn199, hsl, hds, hown, hrd, hbr⟩ := hrel
    have HS := Lib.hid hsl
    have HY := Lib.hid hyl
    have HD := Lib.hid hds
    have HO := Lib.hid hown
    have HRD := Lib.hid hrd
    have HB := Lib.hid hbr
    have hsz := hbr.size
    have hcap1 := hsl.cap
    have hle1 := hsl.le
    unfold maxLen at hcap1
    clear hsl hyl hds hown hrd hbr
    by_cases hlt : k < n
    rotate_left
    · obtain rfl : k = n := by omega
      have HFIN : Hid (readK ks b.toNat r = some (ds, y)) := Lib.hid (by
        rw [HRD.out, List.drop_of_length_le (by rw [HN0.out]; exact Nat.le_refl _)]
        show some (ds ++ [], y) = _
        rw [List.append_nil])
      by_cases hz : b.toNat / 2 ^ k = 0
      rotate_left
      · have hzi : (((b.toNat / 2 ^ k : Nat) : Int) != 0) = true := by rw [bne_iff_ne]; omega
        have HE : Hid (rRow ks (b :: r) = (3, [])) := Lib.hid (by
          have h5 : 2 ^ ks.length ≤ b.toNat := by
            rcases Nat.lt_or_ge b.toNat (2 ^ k) with h | h
            · exact absurd (Nat.div_eq_of_lt h) hz
            · rw [HN0.out]; exact h
          rw [HR0.out]
          exact if_pos (.inr h5))
        have hz' : ¬ b.toNat / 2 ^ k = 0 := hz
        generalize b.toNat / 2 ^ k = Z at *
        clear hz
        go_wp2_with fail
        go_ret2
        exact rd_no HE.out (by decide) HB.out
      · have HE : Hid (rRow ks (b :: r) = match readK ks b.toNat r with | some (l, []) => (0, l) | _ => (3, [])) := Lib.hid (by
          have h1 : b.toNat < 2 ^ ks.length := by
            rw [HN0.out]
            rcases Nat.lt_or_ge b.toNat (2 ^ k) with h | h
            · exact h
            · have := Nat.div_pos h (Nat.two_pow_pos k); omega
          have h3 := HM.out
          rw [HR0.out]
          exact if_neg (by omega))
        rw [hz]
        clear hz
        cases y with
        | nil =>
          obtain rfl : n1 = 0 := by rw [← HY.out]; rfl
          go_wp2_with fail
          go_ret2
          refine ⟨HB.out, .inl ⟨by rw [HE.out, HFIN.out], u7, rfl, ?_⟩⟩
          rw [HE.out, HFIN.out]
          show OwnV wr w.heap.size u7 ds.length (vals ds)
          rw [HD.out]
          exact HO.out
        | cons zz y =>
          obtain ⟨m1, rfl⟩ : ∃ m1, n1 = m1 + 1 := ⟨y.length, HY.out.symm⟩
          go_wp2_with fail
          go_ret2
          exact rd_no (by rw [HE.out, HFIN.out]) (by decide) HB.out
    have HR : Hid (readK ks b.toNat r = none → rRow ks (b :: r) = (3, [])) := Lib.hid (fun h => by
      rw [HR0.out, h]
      split <;> rfl)
    have hlt' : (k : Int) < n := by omega
    obtain ⟨kb, hkb⟩ : ∃ kb, ks[k]? = some kb := ⟨_, List.getElem?_eq_getElem (by rw [HN0.out]; exact hlt)⟩
    obtain ⟨adk, hAK, hAtk⟩ := HK.out.at_ (by omega)
    subst hAK
    have xk := u8s_at (hAtk.below HB.out) hkb
    have HKB : Hid (kOk kb = true) := Lib.hid (ks_at HKO.out hkb)
    have HSP : Hid (ks.drop k = kb :: ks.drop (k + 1)) := Lib.hid (by obtain ⟨h1, h2⟩ := List.getElem?_eq_some_iff.1 hkb; rw [List.drop_eq_getElem_cons h1, h2])
    have HQ2 : Hid (((b.toNat / 2 ^ k : Nat) : Int) / 2 = ((b.toNat / 2 ^ (k + 1) : Nat) : Int)) := Lib.hid (by rw [Nat.pow_succ, ← Nat.div_div_eq_div_mul]; push_cast; rfl)
    have HQ3 : Hid (b.toNat / 2 ^ k / 2 = b.toNat / 2 ^ (k + 1)) := Lib.hid (by rw [Nat.div_div_eq_div_mul, Nat.pow_succ])
    have HNE : Hid (u7.ownBlock ≠ some wr.heap.size) := Lib.hid (by intro e; have := (World.ownsRow.lt HO.out _ e).2; omega)
    have hzle : b.toNat / 2 ^ k ≤ 255 := by have := Nat.div_le_self b.toNat (2 ^ k); omega
    have hk8 : k + 1 ≤ 8 := by omega
    obtain ⟨Z, hZ⟩ : ∃ Z, b.toNat / 2 ^ k = Z := ⟨_, rfl⟩
    rw [hZ] at HRD HQ2 HQ3 hzle
    rw [hZ]
    clear hkb hAtk hZ
    by_cases hbit : Z % 2 = 1
    · have hb1 : ((Z : Int) % 2 == 1) = true := by rw [beq_iff_eq]; omega
      have HRN : Hid (readK ks b.toNat r = (readK (ks.drop (k + 1)) (b.toNat / 2 ^ (k + 1)) y).map (fun q => ((ds ++ [V.mk 0 0 ⟨#[]⟩ false]) ++ q.1, q.2))) := Lib.hid (by
        rw [HRD.out, HSP.out]
        show (if Z % 2 = 1 then _ else _ : Option _).map _ = _
        rw [if_pos hbit, HQ3.out, Option.map_map]
        congr 1
        funext q
        simp
        rfl)
      have HC := Lib.hid (right_exact 0 0 ⟨#[]⟩ false (by show 0 ≤ _; exact Nat.zero_le _) (wr.alloc (.cells #[.int .u8 0, .int .i64 0, .string ⟨#[]⟩, .bool false] 43)))
      have hr0 : Cell.rightB 0 0 ⟨#[]⟩ false = true := right0
      rw [hr0] at HC
      have HVV := ValAt.new wr ⟨0, 0, ⟨#[]⟩, false⟩ 43
      dsimp only at HVV
      have HV2 := Lib.hid HVV
      clear hr0 HVV hbit
      go_wp2_with fail
      refine HC.out.mono ?_
      rintro e w3 ⟨rfl, hb3⟩
      have HV3 := Lib.hid (HV2.out.below (B := (wr.alloc (.cells #[.int .u8 0, .int .i64 0, .string ⟨#[]⟩, .bool false] 43)).heap.size) (by rw [size_alloc]; show wr.heap.size < _; omega) hb3)
      have HB3 := Lib.hid (Cell.bel_trans (Cell.bel_alloc wr _) hb3)
      clear hb3
      have HTL : Hid (Sl wr w.heap.size 1 (tlA (some ad) c' (0)) n1 (c' - (0)) (u8s (y))) := Lib.hid (Sl.tl (m := n1) (k := 0) HS.out)
      have HLR : Hid ((y).length = n1) := Lib.hid (HY.out)
      obtain ⟨y0, y1, y2, y3⟩ := HV3.out
      dsimp only at y0 y1 y2 y3
      have HBT : Hid (Below wr.heap.size wr (w3)) := Lib.hid (HB3.out)
      have HOT := Lib.hid (ownV_kept HO.out HBT.out)
      have hszT := HBT.out.size
      by_cases hcK : c' = 0
      · subst hcK
        obtain rfl : n1 = 0 := by omega
        have et : tlA (some ad) (0) (0) = some ad := by unfold tlA; rw [if_pos rfl]
        rw [et, Nat.sub_self] at HTL
        clear et
        go_wp2_with fail
        generalize hWt : w3 = Wt at *
        go_region_held3 (fun w' => w'.cell? ⟨wr.heap.size, 0, none⟩ = some (.int .u8 0) ∧ w'.cell? ⟨wr.heap.size, 1, none⟩ = some (.int .i64 0) ∧ w'.cell? ⟨wr.heap.size, 2, none⟩ = some (.string ⟨#[]⟩) ∧ w'.cell? ⟨wr.heap.size, 3, none⟩ = some (.bool false)) (first | go_keep | exact kin4 hgrow5 (by assumption) HNE.out)
          (first | (refine step_app_v (by rfl) _ _ (by rfl) w.heap.size u7 _ _ (by rfl) (HOT.out.alloc _) _ _ 1 _ (by rfl) (lies_lit _ _ _ 4 1 (by rfl)) (one4 _ _ _ _) (by omega) (by rw [sz_ad]; omega) ?_; intro v5 w5 hown5 hgrow5))
        all_goals (
          have hb5 := own_below hgrow5 (by rw [sz_ad]; omega) (HOT.out.alloc _)
          have HB5 := Lib.hid (((HBT.out.mono hsz).trans ((Cell.bel_alloc _ _).mono (by omega)).drew).trans hb5)
          have HO5 := Lib.hid hown5
          clear hown5 hgrow5 hb5
          go_wp2_with fail
          go_roundw
          case rel =>
            refine ⟨k + 1, by omega, by go_num, y, ds ++ [V.mk 0 0 ⟨#[]⟩ false], _, _, _, rfl, by rw [HQ2.out], HLR.out, by omega, HTL.out.below HB5.out, by rw [List.length_append, HD.out]; rfl, own_eqV HO5.out ?_ ?_, HRN.out, HB.out.trans HB5.out⟩
            · rfl
            · rw [vals_app]; rfl
          case measure => simp [intOf] <;> omega)
      · have et : tlA (some ad) c' (0) = some (ad) := by unfold tlA; rw [if_neg hcK]; simp [Addr.add]
        rw [et] at HTL
        clear et
        have hi1 : ((0 : Nat) : Int) ≤ (((n1 + (0) : Nat)) : Int) := by omega
        have hi2 : (((n1 + (0) : Nat)) : Int) ≤ c' := by omega
        have hi3 : ((0 : Nat) : Int) ≤ c' := by omega
        push_cast at hi1 hi2 hi3
        go_wp2_with fail
        generalize hWt : w3 = Wt at *
        go_region_held3 (fun w' => w'.cell? ⟨wr.heap.size, 0, none⟩ = some (.int .u8 0) ∧ w'.cell? ⟨wr.heap.size, 1, none⟩ = some (.int .i64 0) ∧ w'.cell? ⟨wr.heap.size, 2, none⟩ = some (.string ⟨#[]⟩) ∧ w'.cell? ⟨wr.heap.size, 3, none⟩ = some (.bool false)) (first | go_keep | exact kin4 hgrow5 (by assumption) HNE.out)
          (first | (refine step_app_v (by rfl) _ _ (by rfl) w.heap.size u7 _ _ (by rfl) (HOT.out.alloc _) _ _ 1 _ (by rfl) (lies_lit _ _ _ 4 1 (by rfl)) (one4 _ _ _ _) (by omega) (by rw [sz_ad]; omega) ?_; intro v5 w5 hown5 hgrow5))
        all_goals (
          have hb5 := own_below hgrow5 (by rw [sz_ad]; omega) (HOT.out.alloc _)
          have HB5 := Lib.hid (((HBT.out.mono hsz).trans ((Cell.bel_alloc _ _).mono (by omega)).drew).trans hb5)
          have HO5 := Lib.hid hown5
          clear hown5 hgrow5 hb5
          go_wp2_with fail
          go_roundw
          case rel =>
            refine ⟨k + 1, by omega, by go_num, y, ds ++ [V.mk 0 0 ⟨#[]⟩ false], _, _, _, rfl, by rw [HQ2.out], HLR.out, by omega, HTL.out.below HB5.out, by rw [List.length_append, HD.out]; rfl, own_eqV HO5.out ?_ ?_, HRN.out, HB.out.trans HB5.out⟩
            · rfl
            · rw [vals_app]; rfl
          case measure => simp [intOf] <;> omega)
    have hb0 : ((Z : Int) % 2 == 1) = false := by rw [beq_eq_false_iff_ne]; omega
    have HKD := HKB.out
    unfold kOk at HKD
    rw [Bool.or_eq_true, Bool.or_eq_true, beq_iff_eq, beq_iff_eq, beq_iff_eq] at HKD
    have HST : Hid (∀ R, rFirst (kb.toNat : Int) y = R → readK ks b.toNat r = contK (ks.drop (k + 1)) (b.toNat / 2 ^ (k + 1)) ds R) := Lib.hid (fun R hRR => by
      rw [HRD.out, HSP.out]
      show (if Z % 2 = 1 then _ else _ : Option _).map _ = _
      rw [if_neg hbit, HQ3.out, hRR]
      cases R with
      | none => rfl
      | some p =>
        show (Option.map _ _).map _ = Option.map _ _
        rw [Option.map_map]
        congr 1
        funext q
        simp)
    clear hbit
    rcases HKD with (rfl | rfl) | rfl
    · have xk : wr.cell? (adk.add k) = some (.int .u8 1) := xk
      by_cases h8 : n1 < 8
      · have h8' : (n1 : Int) < 8 := by omega
        have HN : Hid (readK ks b.toNat r = none) := Lib.hid (HST.out none (by show rNum y = none; unfold rNum; exact if_neg (by rw [HY.out]; omega)))
        go_wp2_with fail
        go_ret2
        exact rd_no (HR.out HN.out) (by decide) (Cell.bel_trans HB.out (Cell.bel_alloc _ _))
      · obtain ⟨m', rfl⟩ : ∃ m', n1 = m' + 8 := ⟨n1 - 8, by omega⟩
        have h8' : ¬ ((m' : Int) + 8) < 8 := by omega
        have hc8 : (8 : Int) ≤ c' := by omega
        obtain ⟨ad', hA', hAt⟩ := HS.out.at_ (by omega)
        injection hA' with hA'
        subst hA'
        have HA1 := Lib.hid (hAt.below ((Cell.bel_alloc wr (.cells #[.int .u8 1, .int .i64 0, .string ⟨#[]⟩, .bool false] 43)).mono hsz))
        obtain ⟨U, hU⟩ : ∃ U, leN (y.take 8) = U := ⟨_, rfl⟩
        have HU := Lib.hid hU
        have hU64 : U < 18446744073709551616 := by
          have h1 := leN_lt (y.take 8)
          rw [List.length_take, Nat.min_eq_left (by rw [HY.out]; omega), hU] at h1
          exact h1
        obtain ⟨I, hI⟩ : ∃ I, wrap64 (U : Int) = I := ⟨_, rfl⟩
        have HUN := Lib.hid hI
        have HRN : Hid (readK ks b.toNat r = (readK (ks.drop (k + 1)) (b.toNat / 2 ^ (k + 1)) (y.drop 8)).map (fun q => ((ds ++ [V.mk 1 I ⟨#[]⟩ false]) ++ q.1, q.2))) := Lib.hid (HST.out (some (⟨1, I, ⟨#[]⟩, false⟩, y.drop 8)) (by show rNum y = _; unfold rNum; rw [if_pos (by rw [HY.out]; omega), hU, hI]))
        have hr1 : Cell.rightB 1 I ⟨#[]⟩ false = true := right1 I
        have HC := Lib.hid (right_exact 1 I ⟨#[]⟩ false (by show 0 ≤ _; exact Nat.zero_le _) (wr.alloc (.cells #[.int .u8 1, .int .i64 I, .string ⟨#[]⟩, .bool false] 43)))
        rw [hr1] at HC
        have HVV := ValAt.new wr ⟨1, I, ⟨#[]⟩, false⟩ 43
        dsimp only at HVV
        have HV2 := Lib.hid HVV
        clear hAt hU hI hr1 HVV
        go_wp2_with fail
        go_loop [13, 14] (fun u i => ∃ (q : Nat) (t : Int), q ≤ 8 ∧ t = (q : Int) - 1 ∧ i = .int .i64 t ∧ u = .int .u64 (leN ((y.take 8).drop q) : Nat)) (fun _ i => (intOf i + 1).toNat)
        case atStart => exact ⟨8, 7, by omega, by omega, rfl, by rw [List.drop_of_length_le (by rw [List.length_take]; omega)]; rfl⟩
        case round =>
          obtain ⟨q, t, hq, ht, rfl, rfl⟩ := hrel
          cases q with
          | succ q =>
            obtain rfl : t = (q : Int) := by omega
            obtain ⟨d, hd⟩ : ∃ d, y[q]? = some d := ⟨_, List.getElem?_eq_getElem (by rw [HY.out]; omega)⟩
            have w0 := u8s_at HA1.out hd
            have HSS := Lib.hid (leN_front hd (by omega))
            have hlt3 := leN_bd (x := y) (q := q) (by omega)
            have hd8 := d.toNat_lt
            have hqc : (q : Int) < (m' : Int) + 8 := by omega
            have hq0 : (0 : Int) ≤ q := Int.natCast_nonneg _
            generalize leN ((y.take 8).drop (q + 1)) = ZZ at *
            clear hd ht
            go_wp2_with fail
            go_round
            case rel =>
              refine ⟨q, (q : Int) - 1, by omega, rfl, rfl, ?_⟩
              rw [HSS.out]
              congr 1
              all_goals (first | omega | (simp only [IntKind.wrap_u64]; omega))
            case measure => simp [intOf] <;> omega
          | zero =>
            obtain rfl : t = -1 := by omega
            rw [List.drop_zero, HU.out]
            clear ht
            go_wp2_with fail
            try simp only [HUN.out]
            refine HC.out.mono ?_
            rintro e w3 ⟨rfl, hb3⟩
            have HV3 := Lib.hid (HV2.out.below (B := (wr.alloc (.cells #[.int .u8 1, .int .i64 I, .string ⟨#[]⟩, .bool false] 43)).heap.size) (by rw [size_alloc]; show wr.heap.size < _; omega) hb3)
            have HB3 := Lib.hid (Cell.bel_trans (Cell.bel_alloc wr _) hb3)
            clear hb3
            have HTL : Hid (Sl wr w.heap.size 1 (tlA (some ad) c' (8)) m' (c' - (8)) (u8s (y.drop 8))) := Lib.hid (Sl.tl (m := m') (k := 8) HS.out)
            have HLR : Hid ((y.drop 8).length = m') := Lib.hid (by rw [List.length_drop, HY.out]; omega)
            obtain ⟨y0, y1, y2, y3⟩ := HV3.out
            dsimp only at y0 y1 y2 y3
            have HBT : Hid (Below wr.heap.size wr (w3)) := Lib.hid (HB3.out)
            have HOT := Lib.hid (ownV_kept HO.out HBT.out)
            have hszT := HBT.out.size
            by_cases hcK : c' = 8
            · subst hcK
              obtain rfl : m' = 0 := by omega
              have et : tlA (some ad) (8) (8) = some ad := by unfold tlA; rw [if_pos rfl]
              rw [et, Nat.sub_self] at HTL
              clear et
              go_wp2_with fail
              generalize hWt : w3 = Wt at *
              go_region_held3 (fun w' => w'.cell? ⟨wr.heap.size, 0, none⟩ = some (.int .u8 1) ∧ w'.cell? ⟨wr.heap.size, 1, none⟩ = some (.int .i64 I) ∧ w'.cell? ⟨wr.heap.size, 2, none⟩ = some (.string ⟨#[]⟩) ∧ w'.cell? ⟨wr.heap.size, 3, none⟩ = some (.bool false)) (first | go_keep | exact kin4 hgrow5 (by assumption) HNE.out)
                (first | (refine step_app_v (by rfl) _ _ (by rfl) w.heap.size u7 _ _ (by rfl) (HOT.out.alloc _) _ _ 1 _ (by rfl) (lies_lit _ _ _ 4 1 (by rfl)) (one4 _ _ _ _) (by omega) (by rw [sz_ad]; omega) ?_; intro v5 w5 hown5 hgrow5))
              all_goals (
                have hb5 := own_below hgrow5 (by rw [sz_ad]; omega) (HOT.out.alloc _)
                have HB5 := Lib.hid (((HBT.out.mono hsz).trans ((Cell.bel_alloc _ _).mono (by omega)).drew).trans hb5)
                have HO5 := Lib.hid hown5
                clear hown5 hgrow5 hb5
                go_wp2_with fail
                go_roundw
                case rel =>
                  refine ⟨k + 1, by omega, by go_num, y.drop 8, ds ++ [V.mk 1 I ⟨#[]⟩ false], _, _, _, rfl, by rw [HQ2.out], HLR.out, by omega, HTL.out.below HB5.out, by rw [List.length_append, HD.out]; rfl, own_eqV HO5.out ?_ ?_, HRN.out, HB.out.trans HB5.out⟩
                  · rfl
                  · rw [vals_app]; rfl
                case measure => simp [intOf] <;> omega)
            · have et : tlA (some ad) c' (8) = some (⟨ad.block, ad.off + 8, none⟩) := by unfold tlA; rw [if_neg hcK]; rfl
              rw [et] at HTL
              clear et
              have hi1 : ((8 : Nat) : Int) ≤ (((m' + (8) : Nat)) : Int) := by omega
              have hi2 : (((m' + (8) : Nat)) : Int) ≤ c' := by omega
              have hi3 : ((8 : Nat) : Int) ≤ c' := by omega
              push_cast at hi1 hi2 hi3
              go_wp2_with fail
              generalize hWt : w3 = Wt at *
              go_region_held3 (fun w' => w'.cell? ⟨wr.heap.size, 0, none⟩ = some (.int .u8 1) ∧ w'.cell? ⟨wr.heap.size, 1, none⟩ = some (.int .i64 I) ∧ w'.cell? ⟨wr.heap.size, 2, none⟩ = some (.string ⟨#[]⟩) ∧ w'.cell? ⟨wr.heap.size, 3, none⟩ = some (.bool false)) (first | go_keep | exact kin4 hgrow5 (by assumption) HNE.out)
                (first | (refine step_app_v (by rfl) _ _ (by rfl) w.heap.size u7 _ _ (by rfl) (HOT.out.alloc _) _ _ 1 _ (by rfl) (lies_lit _ _ _ 4 1 (by rfl)) (one4 _ _ _ _) (by omega) (by rw [sz_ad]; omega) ?_; intro v5 w5 hown5 hgrow5))
              all_goals (
                have hb5 := own_below hgrow5 (by rw [sz_ad]; omega) (HOT.out.alloc _)
                have HB5 := Lib.hid (((HBT.out.mono hsz).trans ((Cell.bel_alloc _ _).mono (by omega)).drew).trans hb5)
                have HO5 := Lib.hid hown5
                clear hown5 hgrow5 hb5
                go_wp2_with fail
                go_roundw
                case rel =>
                  refine ⟨k + 1, by omega, by go_num, y.drop 8, ds ++ [V.mk 1 I ⟨#[]⟩ false], _, _, _, rfl, by rw [HQ2.out], HLR.out, by omega, HTL.out.below HB5.out, by rw [List.length_append, HD.out]; rfl, own_eqV HO5.out ?_ ?_, HRN.out, HB.out.trans HB5.out⟩
                  · rfl
                  · rw [vals_app]; rfl
                case measure => simp [intOf] <;> omega)
    · have xk : wr.cell? (adk.add k) = some (.int .u8 2) := xk
      cases y with
      | nil =>
        obtain rfl : n1 = 0 := by rw [← HY.out]; rfl
        have HN : Hid (readK ks b.toNat r = none) := Lib.hid (HST.out none rfl)
        go_wp2_with fail
        go_ret2
        exact rd_no (HR.out HN.out) (by decide) (Cell.bel_trans HB.out (Cell.bel_alloc _ _))
      | cons a y =>
        obtain ⟨m1, rfl⟩ : ∃ m1, n1 = m1 + 1 := ⟨y.length, HY.out.symm⟩
        have HYL : Hid (y.length = m1) := Lib.hid (by simpa using HY.out)
        obtain ⟨ad', hA', hAt⟩ := HS.out.at_ (by omega)
        injection hA' with hA'
        subst hA'
        have HB1 : Hid (Below wr.heap.size wr (wr.alloc (.cells #[.int .u8 2, .int .i64 0, .string ⟨#[]⟩, .bool false] 43))) := Lib.hid (Cell.bel_alloc _ _)
        have v0 : (wr.alloc (.cells #[.int .u8 2, .int .i64 0, .string ⟨#[]⟩, .bool false] 43)).cell? ad = some (.int .u8 (a.toNat : Int)) := by
          have h := u8s_at (hAt.below (HB1.out.mono hsz)) (j := 0) (b := a) rfl
          rwa [show ad.add 0 = ad by simp [Addr.add]] at h
        have ha8 := a.toNat_lt
        obtain ⟨z, hz⟩ : ∃ z, a.toNat = z := ⟨_, rfl⟩
        rw [hz] at v0 ha8
        by_cases hs : m1 < z
        · have hs' : ((m1 : Int) + 1) < 1 + (z : Int) := by omega
          have HN : Hid (readK ks b.toNat r = none) := Lib.hid (HST.out none (by show rText (a :: y) = none; simp only [rText]; exact if_neg (by rw [hz, HYL.out]; omega)))
          have h1' : ¬ ((m1 : Int) + 1) < 1 := by omega
          clear hAt hz
          go_wp2_with fail
          go_ret2
          exact rd_no (HR.out HN.out) (by decide) (Cell.bel_trans HB.out (Cell.bel_alloc _ _))
        · obtain ⟨m', rfl⟩ : ∃ m', m1 = m' + z := ⟨m1 - z, by omega⟩
          have hst : (str (y.take z)).size ≤ maxLen := by
            show (y.take z).toArray.size ≤ _
            rw [List.size_toArray, List.length_take]
            unfold maxLen
            omega
          have hT1 : Sl wr w.heap.size 1 (tlA (some ad) c' 1) (m' + z) (c' - 1) (u8s y) := Sl.tl (m := m' + z) (k := 1) HS.out
          have hT2 := hT1.take (k := z) (by omega)
          rw [Nat.mul_one, u8s_take] at hT2
          have hcv := conv_sl (hT2.below (HB1.out.mono hsz))
          obtain ⟨S, hS⟩ : ∃ S, str (y.take z) = S := ⟨_, rfl⟩
          rw [hS] at hcv hst
          have HFT : Hid (rFirst 2 (a :: y) = if (⟨2, 0, S, false⟩ : V).right then some (⟨2, 0, S, false⟩, y.drop z) else none) := Lib.hid (by
            show rText (a :: y) = _
            simp only [rText]
            rw [hz, if_pos (by rw [HYL.out]; omega), hS])
          have HVV := ValAt.new wr ⟨2, 0, S, false⟩ 43
          dsimp only at HVV
          have HV2 := Lib.hid HVV
          have HC := Lib.hid (right_exact 2 0 S false hst (wr.alloc (.cells #[.int .u8 2, .int .i64 0, .string S, .bool false] 43)))
          have hs' : ¬ ((m' : Int) + (z : Int) + 1) < 1 + (z : Int) := by omega
          have h1' : ¬ ((m' : Int) + (z : Int) + 1) < 1 := by omega
          have hb1 : (1 : Int) + (z : Int) ≤ c' := by omega
          have hb2 : (1 : Int) + (z : Int) ≤ (m' : Int) + (z : Int) + 1 := by omega
          have HS' : Hid (Sl wr w.heap.size 1 (some ad) (m' + (1 + z)) c' (u8s (a :: y))) := Lib.hid (by have h := HS.out; rwa [show m' + z + 1 = m' + (1 + z) by omega] at h)
          clear HS
          have HS := HS'
          clear HS' hAt hT1 hT2 hS hst HVV hz
          by_cases hcA : c' = 1
          · subst hcA
            obtain rfl : z = 0 := by omega
            obtain rfl : m' = 0 := by omega
            have et1 : tlA (some ad) 1 1 = some ad := rfl
            rw [et1] at hcv
            cases hr : Cell.rightB 2 0 S false
            · rw [hr] at HC
              have HN : Hid (readK ks b.toNat r = none) := Lib.hid (HST.out none (by show rFirst 2 (a :: y) = none; rw [HFT.out]; exact if_neg (by show ¬ Cell.rightB 2 0 S false = true; rw [hr]; decide)))
              clear hr
              go_wp2_with fail
              refine HC.out.mono ?_
              rintro e w3 ⟨rfl, hb3⟩
              have HB3 := Lib.hid (Cell.bel_trans (Cell.bel_alloc wr _) hb3)
              clear hb3
              go_wp2_with fail
              go_ret2
              exact rd_no (HR.out HN.out) (by decide) (HB.out.trans (HB3.out.mono hsz))
            · rw [hr] at HC
              have HRN : Hid (readK ks b.toNat r = (readK (ks.drop (k + 1)) (b.toNat / 2 ^ (k + 1)) (y.drop 0)).map (fun q => ((ds ++ [V.mk 2 0 S false]) ++ q.1, q.2))) := Lib.hid (HST.out (some (⟨2, 0, S, false⟩, y.drop 0)) (by show rFirst 2 (a :: y) = _; rw [HFT.out]; exact if_pos hr))
              clear hr
              go_wp2_with fail
              refine HC.out.mono ?_
              rintro e w3 ⟨rfl, hb3⟩
              have HV3 := Lib.hid (HV2.out.below (B := (wr.alloc (.cells #[.int .u8 2, .int .i64 0, .string S, .bool false] 43)).heap.size) (by rw [size_alloc]; show wr.heap.size < _; omega) hb3)
              have HB3 := Lib.hid (Cell.bel_trans (Cell.bel_alloc wr _) hb3)
              clear hb3
              have HTL : Hid (Sl wr w.heap.size 1 (tlA (some ad) 1 (1)) 0 (1 - (1)) (u8s (y.drop 0))) := Lib.hid (by have h := Sl.tl (m := 0) (k := 1) HS.out; exact h)
              have HLR : Hid ((y.drop 0).length = 0) := Lib.hid (by rw [List.length_drop, HYL.out]; try omega)
              obtain ⟨y0, y1, y2, y3⟩ := HV3.out
              dsimp only at y0 y1 y2 y3
              have HBT : Hid (Below wr.heap.size wr (w3)) := Lib.hid (HB3.out)
              have HOT := Lib.hid (ownV_kept HO.out HBT.out)
              have hszT := HBT.out.size
              have hcK : True := trivial
              clear hcK
              have et : tlA (some ad) (1) (1) = some ad := by unfold tlA; rw [if_pos rfl]
              rw [et, Nat.sub_self] at HTL
              clear et
              go_wp2_with fail
              generalize hWt : w3 = Wt at *
              go_region_held3 (fun w' => w'.cell? ⟨wr.heap.size, 0, none⟩ = some (.int .u8 2) ∧ w'.cell? ⟨wr.heap.size, 1, none⟩ = some (.int .i64 0) ∧ w'.cell? ⟨wr.heap.size, 2, none⟩ = some (.string S) ∧ w'.cell? ⟨wr.heap.size, 3, none⟩ = some (.bool false)) (first | go_keep | exact kin4 hgrow5 (by assumption) HNE.out)
                (first | (refine step_app_v (by rfl) _ _ (by rfl) w.heap.size u7 _ _ (by rfl) (HOT.out.alloc _) _ _ 1 _ (by rfl) (lies_lit _ _ _ 4 1 (by rfl)) (one4 _ _ _ _) (by omega) (by rw [sz_ad]; omega) ?_; intro v5 w5 hown5 hgrow5))
              all_goals (
                have hb5 := own_below hgrow5 (by rw [sz_ad]; omega) (HOT.out.alloc _)
                have HB5 := Lib.hid (((HBT.out.mono hsz).trans ((Cell.bel_alloc _ _).mono (by omega)).drew).trans hb5)
                have HO5 := Lib.hid hown5
                clear hown5 hgrow5 hb5
                go_wp2_with fail
                go_roundw
                case rel =>
                  refine ⟨k + 1, by omega, by go_num, y.drop 0, ds ++ [V.mk 2 0 S false], _, _, _, rfl, by rw [HQ2.out], by have h := HLR.out; omega, by omega, sl_n (HTL.out.below HB5.out) (by omega) (by omega), by rw [List.length_append, HD.out]; rfl, own_eqV HO5.out ?_ ?_, HRN.out, HB.out.trans HB5.out⟩
                  · rfl
                  · rw [vals_app]; rfl
                case measure => simp [intOf] <;> omega)
          · have hc1' : ¬ c' = 1 := hcA
            rw [show tlA (some ad) c' 1 = some ⟨ad.block, ad.off + 1, none⟩ by unfold tlA; rw [if_neg hcA]; rfl] at hcv
            cases hr : Cell.rightB 2 0 S false
            · rw [hr] at HC
              have HN : Hid (readK ks b.toNat r = none) := Lib.hid (HST.out none (by show rFirst 2 (a :: y) = none; rw [HFT.out]; exact if_neg (by show ¬ Cell.rightB 2 0 S false = true; rw [hr]; decide)))
              clear hr
              go_wp2_with fail
              refine HC.out.mono ?_
              rintro e w3 ⟨rfl, hb3⟩
              have HB3 := Lib.hid (Cell.bel_trans (Cell.bel_alloc wr _) hb3)
              clear hb3
              go_wp2_with fail
              go_ret2
              exact rd_no (HR.out HN.out) (by decide) (HB.out.trans (HB3.out.mono hsz))
            · rw [hr] at HC
              have HRN : Hid (readK ks b.toNat r = (readK (ks.drop (k + 1)) (b.toNat / 2 ^ (k + 1)) (y.drop z)).map (fun q => ((ds ++ [V.mk 2 0 S false]) ++ q.1, q.2))) := Lib.hid (HST.out (some (⟨2, 0, S, false⟩, y.drop z)) (by show rFirst 2 (a :: y) = _; rw [HFT.out]; exact if_pos hr))
              clear hr
              go_wp2_with fail
              refine HC.out.mono ?_
              rintro e w3 ⟨rfl, hb3⟩
              have HV3 := Lib.hid (HV2.out.below (B := (wr.alloc (.cells #[.int .u8 2, .int .i64 0, .string S, .bool false] 43)).heap.size) (by rw [size_alloc]; show wr.heap.size < _; omega) hb3)
              have HB3 := Lib.hid (Cell.bel_trans (Cell.bel_alloc wr _) hb3)
              clear hb3
              have HTL : Hid (Sl wr w.heap.size 1 (tlA (some ad) c' (1 + z)) m' (c' - (1 + z)) (u8s (y.drop z))) := Lib.hid (by have h := Sl.tl (m := m') (k := 1 + z) HS.out; rwa [show (a :: y).drop (1 + z) = y.drop z by rw [Nat.add_comm]; rfl] at h)
              have HLR : Hid ((y.drop z).length = m') := Lib.hid (by rw [List.length_drop, HYL.out]; try omega)
              obtain ⟨y0, y1, y2, y3⟩ := HV3.out
              dsimp only at y0 y1 y2 y3
              have HBT : Hid (Below wr.heap.size wr (w3)) := Lib.hid (HB3.out)
              have HOT := Lib.hid (ownV_kept HO.out HBT.out)
              have hszT := HBT.out.size
              by_cases hcK : c' = 1 + z
              · subst hcK
                obtain rfl : m' = 0 := by omega
                have et : tlA (some ad) (1 + z) (1 + z) = some ad := by unfold tlA; rw [if_pos rfl]
                rw [et, Nat.sub_self] at HTL
                clear et
                go_wp2_with fail
                have t1 : (0 : Int) ≤ 1 + (z : Int) := by omega
                have t2 : (1 + (z : Int)).toNat = 1 + z := by omega
                have t3 : IntKind.i64.wrap (1 + (z : Int)) = 1 + z := by rw [IntKind.wrap_i64]; omega
                have t5 : 1 + (z : Int) ≤ 1 + (z : Int) := Int.le_refl _
                have t6 : 1 + (z : Int) ≤ (z : Int) + 1 := by omega
                have t7 : (z : Int) + 1 ≤ 1 + (z : Int) := by omega
                generalize hWt : w3 = Wt at *
                go_region_held3 (fun w' => w'.cell? ⟨wr.heap.size, 0, none⟩ = some (.int .u8 2) ∧ w'.cell? ⟨wr.heap.size, 1, none⟩ = some (.int .i64 0) ∧ w'.cell? ⟨wr.heap.size, 2, none⟩ = some (.string S) ∧ w'.cell? ⟨wr.heap.size, 3, none⟩ = some (.bool false)) (first | go_keep | exact kin4 hgrow5 (by assumption) HNE.out)
                  (first | (refine step_app_v (by rfl) _ _ (by rfl) w.heap.size u7 _ _ (by rfl) (HOT.out.alloc _) _ _ 1 _ (by rfl) (lies_lit _ _ _ 4 1 (by rfl)) (one4 _ _ _ _) (by omega) (by rw [sz_ad]; omega) ?_; intro v5 w5 hown5 hgrow5))
                all_goals (
                  have hb5 := own_below hgrow5 (by rw [sz_ad]; omega) (HOT.out.alloc _)
                  have HB5 := Lib.hid (((HBT.out.mono hsz).trans ((Cell.bel_alloc _ _).mono (by omega)).drew).trans hb5)
                  have HO5 := Lib.hid hown5
                  clear hown5 hgrow5 hb5
                  go_wp2_with fail
                  go_roundw
                  case rel =>
                    refine ⟨k + 1, by omega, by go_num, y.drop z, ds ++ [V.mk 2 0 S false], _, _, _, rfl, by rw [HQ2.out], by have h := HLR.out; omega, by omega, sl_n (HTL.out.below HB5.out) (by omega) (by omega), by rw [List.length_append, HD.out]; rfl, own_eqV HO5.out ?_ ?_, HRN.out, HB.out.trans HB5.out⟩
                    · rfl
                    · rw [vals_app]; rfl
                  case measure => simp [intOf] <;> omega)
              · have et : tlA (some ad) c' (1 + z) = some (ad.add (1 + z)) := by unfold tlA; rw [if_neg hcK]; rfl
                rw [et] at HTL
                clear et
                have hi1 : ((1 + z : Nat) : Int) ≤ (((m' + (1 + z) : Nat)) : Int) := by omega
                have hi2 : (((m' + (1 + z) : Nat)) : Int) ≤ c' := by omega
                have hi3 : ((1 + z : Nat) : Int) ≤ c' := by omega
                push_cast at hi1 hi2 hi3
                go_wp2_with fail
                have t1 : (0 : Int) ≤ 1 + (z : Int) := by omega
                have t2 : (1 + (z : Int)).toNat = 1 + z := by omega
                have t3 : IntKind.i64.wrap (1 + (z : Int)) = 1 + z := by rw [IntKind.wrap_i64]; omega
                have t5 : 1 + (z : Int) ≤ c' := by omega
                have t6 : 1 + (z : Int) ≤ (m' : Int) + (1 + (z : Int)) := by omega
                have t7 : (m' : Int) + (1 + (z : Int)) ≤ c' := by omega
                generalize hWt : w3 = Wt at *
                go_region_held3 (fun w' => w'.cell? ⟨wr.heap.size, 0, none⟩ = some (.int .u8 2) ∧ w'.cell? ⟨wr.heap.size, 1, none⟩ = some (.int .i64 0) ∧ w'.cell? ⟨wr.heap.size, 2, none⟩ = some (.string S) ∧ w'.cell? ⟨wr.heap.size, 3, none⟩ = some (.bool false)) (first | go_keep | exact kin4 hgrow5 (by assumption) HNE.out)
                  (first | (refine step_app_v (by rfl) _ _ (by rfl) w.heap.size u7 _ _ (by rfl) (HOT.out.alloc _) _ _ 1 _ (by rfl) (lies_lit _ _ _ 4 1 (by rfl)) (one4 _ _ _ _) (by omega) (by rw [sz_ad]; omega) ?_; intro v5 w5 hown5 hgrow5))
                all_goals (
                  have hb5 := own_below hgrow5 (by rw [sz_ad]; omega) (HOT.out.alloc _)
                  have HB5 := Lib.hid (((HBT.out.mono hsz).trans ((Cell.bel_alloc _ _).mono (by omega)).drew).trans hb5)
                  have HO5 := Lib.hid hown5
                  clear hown5 hgrow5 hb5
                  go_wp2_with fail
                  go_roundw
                  case rel =>
                    refine ⟨k + 1, by omega, by go_num, y.drop z, ds ++ [V.mk 2 0 S false], _, _, _, rfl, by rw [HQ2.out], by have h := HLR.out; omega, by omega, sl_n (HTL.out.below HB5.out) (by omega) (by omega), by rw [List.length_append, HD.out]; rfl, own_eqV HO5.out ?_ ?_, HRN.out, HB.out.trans HB5.out⟩
                    · rfl
                    · rw [vals_app]; rfl
                  case measure => simp [intOf] <;> omega)
    · have xk : wr.cell? (adk.add k) = some (.int .u8 3) := xk
      cases y with
      | nil =>
        obtain rfl : n1 = 0 := by rw [← HY.out]; rfl
        have HN : Hid (readK ks b.toNat r = none) := Lib.hid (HST.out none rfl)
        go_wp2_with fail
        go_ret2
        exact rd_no (HR.out HN.out) (by decide) (Cell.bel_trans HB.out (Cell.bel_alloc _ _))
      | cons a y =>
        obtain ⟨m', rfl⟩ : ∃ m', n1 = m' + 1 := ⟨y.length, HY.out.symm⟩
        have HYL : Hid (y.length = m') := Lib.hid (by simpa using HY.out)
        obtain ⟨ad', hA', hAt⟩ := HS.out.at_ (by omega)
        injection hA' with hA'
        subst hA'
        have HB1 : Hid (Below wr.heap.size wr (wr.alloc (.cells #[.int .u8 3, .int .i64 0, .string ⟨#[]⟩, .bool false] 43))) := Lib.hid (Cell.bel_alloc _ _)
        have v0 : (wr.alloc (.cells #[.int .u8 3, .int .i64 0, .string ⟨#[]⟩, .bool false] 43)).cell? ad = some (.int .u8 (a.toNat : Int)) := by
          have h := u8s_at (hAt.below (HB1.out.mono hsz)) (j := 0) (b := a) rfl
          rwa [show ad.add 0 = ad by simp [Addr.add]] at h
        have h1' : ¬ ((m' : Int) + 1) < 1 := by omega
        clear hAt
        by_cases ha : a.toNat ≤ 1
        rotate_left
        · have ha' : (1 : Int) < a.toNat := by omega
          have HN : Hid (readK ks b.toNat r = none) := Lib.hid (HST.out none (if_neg ha))
          go_wp2_with fail
          go_ret2
          exact rd_no (HR.out HN.out) (by decide) (Cell.bel_trans HB.out (Cell.bel_alloc _ _))
        · have ha' : ¬ (1 : Int) < a.toNat := by omega
          have hq : ((a.toNat : Int) == 1) = (a == 1) := by
            rw [Bool.eq_iff_iff]
            simp only [beq_iff_eq]
            constructor
            · intro h; exact UInt8.toNat_inj.1 (by show a.toNat = 1; omega)
            · rintro rfl; rfl
          obtain ⟨q, hqq⟩ : ∃ q, (a == 1) = q := ⟨_, rfl⟩
          rw [hqq] at hq
          have HRN : Hid (readK ks b.toNat r = (readK (ks.drop (k + 1)) (b.toNat / 2 ^ (k + 1)) y).map (fun t => ((ds ++ [V.mk 3 0 ⟨#[]⟩ q]) ++ t.1, t.2))) := Lib.hid (HST.out (some (⟨3, 0, ⟨#[]⟩, q⟩, y)) (by rw [← hqq]; exact if_pos ha))
          have hr3 : Cell.rightB 3 0 ⟨#[]⟩ q = true := right3 q
          have HC := Lib.hid (right_exact 3 0 ⟨#[]⟩ q (by show 0 ≤ _; exact Nat.zero_le _) (wr.alloc (.cells #[.int .u8 3, .int .i64 0, .string ⟨#[]⟩, .bool q] 43)))
          rw [hr3] at HC
          have HVV := ValAt.new wr ⟨3, 0, ⟨#[]⟩, q⟩ 43
          dsimp only at HVV
          have HV2 := Lib.hid HVV
          clear hqq hr3 HVV ha
          go_wp2_with fail
          refine HC.out.mono ?_
          rintro e w3 ⟨rfl, hb3⟩
          have HV3 := Lib.hid (HV2.out.below (B := (wr.alloc (.cells #[.int .u8 3, .int .i64 0, .string ⟨#[]⟩, .bool q] 43)).heap.size) (by rw [size_alloc]; show wr.heap.size < _; omega) hb3)
          have HB3 := Lib.hid (Cell.bel_trans (Cell.bel_alloc wr _) hb3)
          clear hb3
          have HTL : Hid (Sl wr w.heap.size 1 (tlA (some ad) c' (1)) m' (c' - (1)) (u8s (y))) := Lib.hid (Sl.tl (m := m') (k := 1) HS.out)
          have HLR : Hid ((y).length = m') := Lib.hid (HYL.out)
          obtain ⟨y0, y1, y2, y3⟩ := HV3.out
          dsimp only at y0 y1 y2 y3
          have HBT : Hid (Below wr.heap.size wr (w3)) := Lib.hid (HB3.out)
          have HOT := Lib.hid (ownV_kept HO.out HBT.out)
          have hszT := HBT.out.size
          by_cases hcK : c' = 1
          · subst hcK
            obtain rfl : m' = 0 := by omega
            have et : tlA (some ad) (1) (1) = some ad := by unfold tlA; rw [if_pos rfl]
            rw [et, Nat.sub_self] at HTL
            clear et
            go_wp2_with fail
            generalize hWt : w3 = Wt at *
            go_region_held3 (fun w' => w'.cell? ⟨wr.heap.size, 0, none⟩ = some (.int .u8 3) ∧ w'.cell? ⟨wr.heap.size, 1, none⟩ = some (.int .i64 0) ∧ w'.cell? ⟨wr.heap.size, 2, none⟩ = some (.string ⟨#[]⟩) ∧ w'.cell? ⟨wr.heap.size, 3, none⟩ = some (.bool q)) (first | go_keep | exact kin4 hgrow5 (by assumption) HNE.out)
              (first | (refine step_app_v (by rfl) _ _ (by rfl) w.heap.size u7 _ _ (by rfl) (HOT.out.alloc _) _ _ 1 _ (by rfl) (lies_lit _ _ _ 4 1 (by rfl)) (one4 _ _ _ _) (by omega) (by rw [sz_ad]; omega) ?_; intro v5 w5 hown5 hgrow5))
            all_goals (
              have hb5 := own_below hgrow5 (by rw [sz_ad]; omega) (HOT.out.alloc _)
              have HB5 := Lib.hid (((HBT.out.mono hsz).trans ((Cell.bel_alloc _ _).mono (by omega)).drew).trans hb5)
              have HO5 := Lib.hid hown5
              clear hown5 hgrow5 hb5
              go_wp2_with fail
              go_roundw
              case rel =>
                refine ⟨k + 1, by omega, by go_num, y, ds ++ [V.mk 3 0 ⟨#[]⟩ q], _, _, _, rfl, by rw [HQ2.out], HLR.out, by omega, HTL.out.below HB5.out, by rw [List.length_append, HD.out]; rfl, own_eqV HO5.out ?_ ?_, HRN.out, HB.out.trans HB5.out⟩
                · rfl
                · rw [vals_app]; rfl
              case measure => simp [intOf] <;> omega)
          · have et : tlA (some ad) c' (1) = some (⟨ad.block, ad.off + 1, none⟩) := by unfold tlA; rw [if_neg hcK]; rfl
            rw [et] at HTL
            clear et
            have hi1 : ((1 : Nat) : Int) ≤ (((m' + (1) : Nat)) : Int) := by omega
            have hi2 : (((m' + (1) : Nat)) : Int) ≤ c' := by omega
            have hi3 : ((1 : Nat) : Int) ≤ c' := by omega
            push_cast at hi1 hi2 hi3
            go_wp2_with fail
            generalize hWt : w3 = Wt at *
            go_region_held3 (fun w' => w'.cell? ⟨wr.heap.size, 0, none⟩ = some (.int .u8 3) ∧ w'.cell? ⟨wr.heap.size, 1, none⟩ = some (.int .i64 0) ∧ w'.cell? ⟨wr.heap.size, 2, none⟩ = some (.string ⟨#[]⟩) ∧ w'.cell? ⟨wr.heap.size, 3, none⟩ = some (.bool q)) (first | go_keep | exact kin4 hgrow5 (by assumption) HNE.out)
              (first | (refine step_app_v (by rfl) _ _ (by rfl) w.heap.size u7 _ _ (by rfl) (HOT.out.alloc _) _ _ 1 _ (by rfl) (lies_lit _ _ _ 4 1 (by rfl)) (one4 _ _ _ _) (by omega) (by rw [sz_ad]; omega) ?_; intro v5 w5 hown5 hgrow5))
            all_goals (
              have hb5 := own_below hgrow5 (by rw [sz_ad]; omega) (HOT.out.alloc _)
              have HB5 := Lib.hid (((HBT.out.mono hsz).trans ((Cell.bel_alloc _ _).mono (by omega)).drew).trans hb5)
              have HO5 := Lib.hid hown5
              clear hown5 hgrow5 hb5
              go_wp2_with fail
              go_roundw
              case rel =>
                refine ⟨k + 1, by omega, by go_num, y, ds ++ [V.mk 3 0 ⟨#[]⟩ q], _, _, _, rfl, by rw [HQ2.out], HLR.out, by omega, HTL.out.below HB5.out, by rw [List.length_append, HD.out]; rfl, own_eqV HO5.out ?_ ?_, HRN.out, HB.out.trans HB5.out⟩
                · rfl
                · rw [vals_app]; rfl
              case measure => simp [intOf] <;> omega)
theorem refread4_1 (ks x : List UInt8) (A : Option Addr) (n c : Nat) (A' : Option Addr) (n' c' : Nat) (w : World) (hk : Sl w w.heap.size 1 A n c (u8s ks)) (h : ksOk ks = false) :
    Calls Tryd.prog 37 #[.slice A n c, .slice A' n' c'] w (RdPost (rRow ks x) w) := by
  have C1 := Lib.hid (refkinds_any ks A n c w hk)
  have HR : Hid (rRow ks x = (1, [])) := Lib.hid (by unfold rRow; rw [h]; rfl)
  rw [h] at C1
  clear hk h
  go_enter Tryd.func37, Tryd.ntmps37
  go_wp2_with fail
  refine C1.out.mono ?_
  rintro e w1 ⟨rfl, rfl⟩
  go_wp2_with fail
  go_ret2
  exact rd_no HR.out (by decide) (Below.refl _ _)
theorem refread4_2 (ks : List UInt8) (A : Option Addr) (n c : Nat) (A' : Option Addr) (c' : Nat) (w : World) (hk : Sl w w.heap.size 1 A n c (u8s ks)) (h : ksOk ks = true) :
    Calls Tryd.prog 37 #[.slice A n c, .slice A' 0 c'] w (RdPost (rRow ks []) w) := by
  have C1 := Lib.hid (refkinds_any ks A n c w hk)
  have HR : Hid (rRow ks [] = (3, [])) := Lib.hid (by unfold rRow; rw [h]; rfl)
  rw [h] at C1
  clear hk h
  go_enter Tryd.func37, Tryd.ntmps37
  go_wp2_with fail
  refine C1.out.mono ?_
  rintro e w1 ⟨rfl, rfl⟩
  go_wp2_with fail
  go_ret2
  exact rd_no HR.out (by decide) (Below.refl _ _)
theorem refread4_3 (ks r : List UInt8) (b : UInt8) (A : Option Addr) (n c : Nat) (A' : Option Addr) (m c' : Nat) (w : World) (hk : Sl w w.heap.size 1 A n c (u8s ks)) (h : ksOk ks = true) (hm : r.length = m) (h2 : 200 < m + 1) (hc : m + 1 ≤ c') (hcm : c' ≤ maxLen) :
    Calls Tryd.prog 37 #[.slice A n c, .slice A' (m + 1 : Nat) c'] w (RdPost (rRow ks (b :: r)) w) := by
  have C1 := Lib.hid (refkinds_any ks A n c w hk)
  have HR : Hid (rRow ks (b :: r) = (3, [])) := Lib.hid (by unfold rRow; rw [h, if_pos rfl]; exact if_pos (.inl (by omega)))
  rw [h] at C1
  have hne : ¬ ((m : Int) + 1) < 1 := by omega
  have h2' : (200 : Int) < (m : Int) + 1 := by omega
  unfold maxLen at hcm
  clear hk h hm
  go_enter Tryd.func37, Tryd.ntmps37
  go_wp2_with fail
  refine C1.out.mono ?_
  rintro e w1 ⟨rfl, rfl⟩
  go_wp2_with fail
  go_ret2
  exact rd_no HR.out (by decide) (Below.refl _ _)
theorem refread4_any (ks x : List UInt8) (A : Option Addr) (n c : Nat) (A' : Option Addr) (n' c' : Nat) (w : World) (hn : ks.length = n) (hm : x.length = n') (hk : Sl w w.heap.size 1 A n c (u8s ks)) (hx : Sl w w.heap.size 1 A' n' c' (u8s x)) :
    Calls Tryd.prog 37 #[.slice A n c, .slice A' n' c'] w (RdPost (rRow ks x) w) := by
  cases h : ksOk ks
  · exact refread4_1 ks x A n c A' n' c' w hk h
  cases x with
  | nil =>
    obtain rfl : n' = 0 := by rw [← hm]; rfl
    exact refread4_2 ks A n c A' c' w hk h
  | cons b r =>
    obtain ⟨m, rfl⟩ : ∃ m, n' = m + 1 := ⟨r.length, hm.symm⟩
    have hm' : r.length = m := by simpa using hm
    by_cases h2 : 200 < m + 1
    · exact refread4_3 ks r b A n c A' m c' w hk h hm' h2 hx.le hx.cap
    obtain ⟨ad, hA, _⟩ := hx.at_ (by omega)
    subst hA
    by_cases hc : c' = 1
    · exact refread4_6 ks r b n c A ad m c' w hn hk h hm' (by omega) hx hc
    · exact refread4_5 ks r b n c A ad m c' w hn hk h hm' (by omega) hx hc
end Go.Proofs.YtfabcnbblhadnaaDoor.Mem
