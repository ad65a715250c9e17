/- KeyFinds: its walk. -/
import Derived.Test.YtcffpinelpllhaaDoorLOrdersK
import Derived.Test.YtcffpinelpllhaaDoorOpenRows
namespace Go.Proofs.YtcffpinelpllhaaDoor.Mem
open Go.RowKit Go.Proofs.YtcffpinelpllhaaDoor.Nums
open Go.Proofs.YtcffpinelpllhaaDoor.Cell (U8 sameR lessR)
open Go.Op (bytesLess)
set_option linter.unusedVariables false
set_option linter.unusedSimpArgs false
set_option maxRecDepth 100000
attribute [local irreducible] wpQuiet
theorem bytes_begin {u v : V} (hu : u.right = true) (hv : v.right = true) (iu : Nums.In64 u.i) (iv : Nums.In64 v.i) (rest : List UInt8) : v.bytes.isPrefixOf (u.bytes ++ rest) = u.same v := by
  cases h : u.same v with
  | true =>
    obtain rfl := same_right hu hv iu iv h
    rw [List.isPrefixOf_iff_prefix]
    exact List.prefix_append _ _
  | false =>
    rw [Bool.eq_false_iff]
    intro hp
    rw [List.isPrefixOf_iff_prefix] at hp
    obtain ⟨t, ht⟩ := hp
    have h' : (!u.less v && !v.less u) = false := h
    have h2 : u.less v = true ∨ v.less u = true := by
      cases e1 : u.less v
      · right
        rw [e1] at h'
        simpa using h'
      · exact .inl rfl
    rcases h2 with h2 | h2
    · have := bytes_less hu hv iu iv h2 rest t
      rw [ht, bl_self] at this
      cases this
    · have := bytes_less hv hu iv iu h2 t rest
      rw [ht, bl_self] at this
      cases this
theorem same_kind {u v : V} (hu : u.right = true) (hv : v.right = true) (iu : Nums.In64 u.i) (iv : Nums.In64 v.i) (h : (u.k == v.k) = false) : u.same v = false := by
  rw [Bool.eq_false_iff]
  intro hs
  obtain rfl := same_right hu hv iu iv hs
  simp at h
theorem bytes_not_ff {v : V} : v.bytes.all (· == 255) = false := by
  obtain ⟨k, i, s, b⟩ := v
  show (vBytes k i s b).all (· == 255) = false
  unfold vBytes
  split
  · cases b <;> rfl
  split
  · rfl
  split
  · rfl
  · rfl
theorem find_in {v : V} {q y : List UInt8} (hb : Beh v.bytes y) : (!bytesLess q v.bytes && bytesLess q y) = v.bytes.isPrefixOf q := by
  rcases beh_parts hb with ⟨h, _⟩ | ⟨_, pre, b, fs, hp, hb2, hf, hy⟩
  · rw [bytes_not_ff] at h; cases h
  · rw [hp, hy]; exact behind_in pre fs q b hb2 hf
theorem one_all (v : V) : [v].all V.right = v.right := by simp
theorem one_bytes (v : V) : rowBytes [v] = v.bytes := by show v.bytes ++ [] = _; rw [List.append_nil]
theorem finds_n (v : V) (A : Option Addr) (N c : Nat) (w : World) (hv : v.ok) (hr : v.right = false) (hU : U8 w) :
    Calls Tryd.prog 8 #[.agg #[.int .u8 v.k, .int .i64 v.i, .string v.s, .bool v.b], .slice A N c] w fun e w' => e = .returned (.bool true) ∧ Below w.heap.size w w' := by
  obtain ⟨W, hW⟩ : ∃ W, w.alloc (.cells #[.int .u8 v.k, .int .i64 v.i, .string v.s, .bool v.b] 43) = W := ⟨_, rfl⟩
  have HX : Hid (ValAt W ⟨w.heap.size, 0, none⟩ v) := Lib.hid (by rw [← hW]; exact ValAt.new w v _)
  have HB : Hid (Below w.heap.size w W) := Lib.hid (by rw [← hW]; exact Cell.bel_alloc _ _)
  have HSZ : Hid (W.heap.size = w.heap.size + 1) := Lib.hid (by rw [← hW]; exact size_alloc _ _)
  have HU := Lib.hid (hU.below HB.out)
  have HW := Lib.hid hW
  have HOK : Hid (∀ u ∈ [v], u.ok) := Lib.hid (by intro u hu; rw [List.mem_singleton] at hu; rw [hu]; exact hv)
  have HV := Lib.hid hv
  have HR : Hid ([v].all V.right = false) := Lib.hid (by rw [one_all]; exact hr)
  have HRR := Lib.hid (Cell.right_exact v.k v.i v.s v.b hv.2)
  have e : Cell.rightB v.k v.i v.s v.b = false := hr
  rw [e] at HRR
  clear hW hv hr hU e
  go_enter Tryd.func8, Tryd.ntmps8
  go_wp2_with fail
  rw [HW.out]
  refine (awake_k _ HU.out).mono ?_
  rintro e w1 ⟨rfl, hb1⟩
  have HB1 := Lib.hid hb1
  obtain ⟨x0, x1, x2, x3⟩ := HX.out.below (B := W.heap.size) (by rw [HSZ.out]; show w.heap.size < _; omega) hb1
  clear hb1
  go_wp2_with fail
  refine (kbytes_no [v] HR.out (some ⟨w1.heap.size, 0, none⟩) 1 1 _ rfl (by omega) (Sl.lit w1 _ _ 4 1 _ rfl rfl (by unfold maxLen; omega)) HOK.out ((HU.out.below HB1.out).below (Cell.bel_alloc _ _))).mono ?_
  rintro e w2 ⟨rfl, hb2⟩
  have HB2 := Lib.hid (Cell.bel_trans HB1.out (Cell.bel_trans (Cell.bel_alloc _ _) hb2))
  clear hb2 x0 x1 x2 x3
  obtain ⟨x0, x1, x2, x3⟩ := HX.out.below (B := W.heap.size) (by rw [HSZ.out]; show w.heap.size < _; omega) HB2.out
  go_wp2_with fail
  refine (HRR.out _).mono ?_
  rintro e w3 ⟨rfl, hb3⟩
  have HB3 := Lib.hid hb3
  clear hb3
  go_wp2_with fail
  go_ret
  exact ⟨rfl, Cell.bel_trans HB.out (Cell.bel_trans HB2.out HB3.out)⟩
set_option maxHeartbeats 1600000 in
theorem finds_y (v : V) (A : Option Addr) (N c : Nat) (L : List R) (w : World) (hs : Sl w w.heap.size 1 A N c (L.map R.val)) (hL : ∀ q ∈ L, R.ok w q) (hv : v.ok) (hr : v.right = true) (hU : U8 w) :
    Calls Tryd.prog 8 #[.agg #[.int .u8 v.k, .int .i64 v.i, .string v.s, .bool v.b], .slice A N c] w fun e w' => e = .returned (.bool true) ∧ Below w.heap.size w w' := by
  obtain ⟨W, hW⟩ : ∃ W, w.alloc (.cells #[.int .u8 v.k, .int .i64 v.i, .string v.s, .bool v.b] 43) = W := ⟨_, rfl⟩
  have HX : Hid (ValAt W ⟨w.heap.size, 0, none⟩ v) := Lib.hid (by rw [← hW]; exact ValAt.new w v _)
  have HB : Hid (Below w.heap.size w W) := Lib.hid (by rw [← hW]; exact Cell.bel_alloc _ _)
  have HSZ : Hid (W.heap.size = w.heap.size + 1) := Lib.hid (by rw [← hW]; exact size_alloc _ _)
  have HU := Lib.hid (hU.below HB.out)
  have HW := Lib.hid hW
  have HOK : Hid (∀ u ∈ [v], u.ok) := Lib.hid (by intro u hu; rw [List.mem_singleton] at hu; rw [hu]; exact hv)
  have HV := Lib.hid hv
  have HR : Hid ([v].all V.right = true) := Lib.hid (by rw [one_all]; exact hr)
  have HR1 := Lib.hid hr
  have hcap := hs.cap
  have hNL : L.length = N := by have := hs.len; rw [List.length_map] at this; omega
  unfold maxLen at hcap
  have hNc := hs.le
  have HS := Lib.hid hs
  have HL := Lib.hid hL
  have HNL := Lib.hid hNL
  have HBL : Hid (v.bytes.length ≤ 62) := Lib.hid (bytes_le hr)
  clear hW hv hr hU hs hL hNL
  go_enter Tryd.func8, Tryd.ntmps8
  go_wp2_with fail
  rw [HW.out]
  refine (awake_k _ HU.out).mono ?_
  rintro e w1 ⟨rfl, hb1⟩
  have HB1 := Lib.hid hb1
  obtain ⟨x0, x1, x2, x3⟩ := HX.out.below (B := W.heap.size) (by rw [HSZ.out]; show w.heap.size < _; omega) hb1
  clear hb1
  go_wp2_with fail
  refine (kbytes_ok [v] HR.out (some ⟨w1.heap.size, 0, none⟩) 1 1 _ rfl (by omega) (Sl.lit w1 _ _ 4 1 _ rfl rfl (by unfold maxLen; omega)) HOK.out ((HU.out.below HB1.out).below (Cell.bel_alloc _ _))).mono ?_
  rintro e w2 ⟨A2, c2, rfl, hown2, hb2⟩
  rw [one_bytes] at hown2 ⊢
  obtain ⟨A2', c2', he, hs2⟩ := Sl.of_own hown2
  injection he with e1 e2 e3
  subst e1 e3
  have HP2 := Lib.hid hs2
  have HB2 := Lib.hid (Cell.bel_trans HB1.out (Cell.bel_trans (Cell.bel_alloc _ _) hb2))
  clear hb2 hown2 hs2 e2 x0 x1 x2 x3
  go_wp2_with fail
  refine (behind_any v.bytes A2 _ c2 _ HP2.out (by have := HBL.out; omega)).mono ?_
  rintro e w3 ⟨v3, y, rfl, hbeh, hown3, hb3⟩
  obtain ⟨A3, c3, hv3, hs3⟩ := Sl.of_own hown3
  subst hv3
  have HP3 := Lib.hid hs3
  have HP2 := Lib.hid (HP2.out.on hb3)
  have HIN := Lib.hid (fun q => find_in (q := q) hbeh)
  have HB3 := Lib.hid (Cell.bel_trans HB2.out hb3)
  have HU3 := Lib.hid (HU.out.below HB3.out)
  have HW3 := Lib.hid (Cell.bel_trans HB.out HB3.out)
  have HX3 : Hid (ValAt w3 ⟨w.heap.size, 0, none⟩ v) := Lib.hid (HX.out.below (B := W.heap.size) (by rw [HSZ.out]; show w.heap.size < _; omega) HB3.out)
  have HSZ3 : Hid (w.heap.size < w3.heap.size) := Lib.hid (by have := HB3.out.size; have := HSZ.out; omega)
  clear hbeh hown3 hb3 hs3 HB1 HB2 HX HU HB
  go_wp2_with fail
  go_loopw [30] (fun i wr => ∃ k : Nat, k ≤ N ∧ i = .int .i64 k ∧ Below w3.heap.size w3 wr) (fun i _ => N - (intOf i).toNat)
  case atStart => exact ⟨0, by omega, rfl, Below.refl _ _⟩
  case round =>
    obtain ⟨k, hk, rfl, hbr⟩ := hrel
    have HBR := Lib.hid hbr
    clear hbr
    by_cases hlt : k < N
    · by_cases h20 : k < 20
      · have hlt' : (k : Int) < N := by omega
        have hk0 : (0 : Int) ≤ (k : Int) := Int.natCast_nonneg _
        have h20' : (k : Int) < 20 := by omega
        obtain ⟨r, hr⟩ : ∃ r, L[k]? = some r := ⟨_, List.getElem?_eq_getElem (by rw [HNL.out]; exact hlt)⟩
        obtain ⟨hrl, hrs, hro⟩ := HL.out r (List.mem_of_getElem? hr)
        obtain ⟨RA, rn, rc, rl⟩ := r
        change rl.length = rn at hrl
        change Sl w w.heap.size 4 RA rn rc (vals rl) at hrs
        change ∀ u ∈ rl, u.ok at hro
        obtain ⟨ad, hA, hAt⟩ := HS.out.at_ (by omega)
        subst hA
        have HBW := Lib.hid (Cell.bel_trans HW3.out HBR.out)
        have z0 : wr.cell? (ad.add k) = some (.slice RA rn rc) := (hAt.below HBW.out).2 k _ (by rw [List.getElem?_map, hr]; rfl)
        obtain ⟨m, hm1, hm2, hm3, hm4⟩ := min_nat rn 6
        have hmr : (m : Int) ≤ rc := by have := hrs.le; omega
        have hrcap := hrs.cap
        unfold maxLen at hrcap
        have hmin : min (rn : Int) 6 = (m : Int) := hm3
        have HRT := Lib.hid (hrs.take hm1)
        have hvt := vals_take rl m
        rw [hvt] at HRT
        have HRS := Lib.hid hrs
        have HRO := Lib.hid hro
        have HRL := Lib.hid hrl
        have HTL : Hid ((rl.take m).length = m) := Lib.hid (by rw [List.length_take, hrl]; omega)
        clear hvt hm3 hr hrl hrs hro hAt
        cases hra : (rl.take m).all V.right
        · have HRA := Lib.hid hra
          clear hra
          go_wp2_with fail
          refine (kbytes_no (rl.take m) HRA.out RA m rc _ HTL.out (by omega) (HRT.out.on HBW.out) (all_take HRO.out) (HU3.out.below HBR.out)).mono ?_
          rintro e w4 ⟨rfl, hb4⟩
          have HB4 := Lib.hid (Cell.bel_trans HBR.out hb4)
          clear hb4 z0
          go_wp2_with fail
          go_roundw
          case rel => exact ⟨k + 1, by omega, by go_num, HB4.out⟩
          case measure => simp [intOf]; omega
        · have HRA := Lib.hid hra
          clear hra
          go_wp2_with fail
          refine (kbytes_ok (rl.take m) HRA.out RA m rc _ HTL.out (by omega) (HRT.out.on HBW.out) (all_take HRO.out) (HU3.out.below HBR.out)).mono ?_
          rintro e w4 ⟨A4, c4, rfl, hown4, hb4⟩
          obtain ⟨A4', c4', he, hs4⟩ := Sl.of_own hown4
          injection he with e1 e2 e3
          subst e1 e3
          have HQ4 := Lib.hid hs4
          have HB4 := Lib.hid (Cell.bel_trans HBR.out hb4)
          have HP24 := Lib.hid (HP2.out.on HB4.out)
          have HP34 := Lib.hid (HP3.out.on HB4.out)
          have HX4 : Hid (ValAt w4 ⟨w.heap.size, 0, none⟩ v) := Lib.hid (HX3.out.below (B := w3.heap.size) HSZ3.out HB4.out)
          have HR4 := Lib.hid (HRS.out.on (Cell.bel_trans HW3.out HB4.out))
          have HX := Lib.hid (HIN.out (rowBytes (rl.take m)))
          clear hown4 hs4 hb4 z0 e2 hmin
          have hcs : (rn = 0 ∧ v.bytes.isPrefixOf (rowBytes (rl.take m)) = false) ∨ (∃ u, rl[0]? = some u ∧ 0 < rn ∧ u.right = true ∧ Nums.In64 u.i ∧ v.bytes.isPrefixOf (rowBytes (rl.take m)) = u.same v) := by
            cases hrl0 : rl with
            | nil =>
              left
              have hn0 : rn = 0 := by rw [← HRL.out, hrl0]; rfl
              refine ⟨hn0, ?_⟩
              have hvb : 0 < v.bytes.length := by
                have := bytes_not_ff (v := v)
                cases hb : v.bytes with
                | nil => rw [hb] at this; cases this
                | cons a t => simp
              cases hb : v.bytes with
              | nil => rw [hb] at hvb; cases hvb
              | cons a t => simp [rowBytes]
            | cons u t =>
              right
              have hn0 : 0 < rn := by rw [← HRL.out, hrl0]; simp
              have hm0 : 0 < m := by omega
              have ht : rl.take m = u :: t.take (m - 1) := by
                rw [hrl0]
                obtain ⟨m', rfl⟩ : ∃ m', m = m' + 1 := ⟨m - 1, by omega⟩
                rfl
              have hall := HRA.out
              rw [ht, List.all_cons, Bool.and_eq_true] at hall
              have hui : Nums.In64 u.i := (HRO.out u (by rw [hrl0]; simp)).1
              refine ⟨u, by rw [hrl0] at *; rfl, hn0, hall.1, hui, ?_⟩
              rw [← hrl0, ht]
              show v.bytes.isPrefixOf (u.bytes ++ rowBytes (t.take (m - 1))) = _
              exact bytes_begin hall.1 HR1.out hui HV.out.1 _
          cases hb1 : bytesLess (rowBytes (rl.take m)) v.bytes
          · have HXX := HX
            rw [hb1] at HXX
            obtain ⟨b2, hb2⟩ : ∃ b2, bytesLess (rowBytes (rl.take m)) y = b2 := ⟨_, rfl⟩
            rw [hb2] at HXX
            have L1 := Lib.hid (kless_any (rowBytes (rl.take m)) v.bytes _ _ _ _ _ _ _ HQ4.out HP24.out)
            have L2 := Lib.hid (kless_any (rowBytes (rl.take m)) y _ _ _ _ _ _ _ HQ4.out HP34.out)
            rw [hb1] at L1
            rw [hb2] at L2
            have HE : Hid (b2 = v.bytes.isPrefixOf (rowBytes (rl.take m))) := Lib.hid (by simpa using HXX.out)
            clear hb1 hb2 HXX HX
            go_wp2_with fail
            refine L1.out.mono ?_
            rintro e w5 ⟨rfl, rfl⟩
            go_wp2_with fail
            refine L2.out.mono ?_
            rintro e w5 ⟨rfl, rfl⟩
            go_wp2_with fail
            rcases hcs with ⟨hrn, hpf⟩ | ⟨u, hu0, hrn, hur, hui, hpf⟩
            · subst hrn
              have hb2 : b2 = false := by rw [HE.out, hpf]
              subst hb2
              clear hpf HE
              refine wp_region_quiet_below (by kernel_rfl) (by kernel_rfl) ?_
              repeat (quiet_step (first | fail))
              refine wpQuiet_nil ?_
              intro _ hw'
              obtain ⟨⟨dq, osq⟩, hw''⟩ := hw'
              subst hw''
              have HBQ := Lib.hid (below_regrown w4 dq osq)
              generalize Go.Sort.grow (redrawn w4 dq) osq = w6 at *
              go_wp2_with fail
              go_roundw
              case rel => exact ⟨k + 1, by omega, by go_num, Cell.bel_trans HB4.out HBQ.out⟩
              case measure => simp [intOf]; omega
            · obtain ⟨rad, hRA, hrAt⟩ := HR4.out.at_ hrn
              subst hRA
              have HVU : Hid (ValAt w4 rad u) := Lib.hid (by have := hrAt.val hu0; simpa [Addr.add] using this)
              have hrn' : (0 : Int) < rn := by omega
              have h00 : (0 : Int) ≤ 0 := Int.le_refl _
              have hb2 : b2 = u.same v := by rw [HE.out, hpf]
              have HSK := Lib.hid (same_kind hur HR1.out hui HV.out.1)
              clear hpf HE hrAt hu0 hur hui
              cases hkk : (u.k == v.k)
              · have hb2f : b2 = false := by rw [hb2]; exact HSK.out hkk
                subst hb2f
                clear hb2
                have x0 := cell_regrown HVU.out.c0
                have x1 := cell_regrown HVU.out.c1
                have x2 := cell_regrown HVU.out.c2
                have x3 := cell_regrown HVU.out.c3
                have y0 := cell_regrown HX4.out.c0
                have y1 := cell_regrown HX4.out.c1
                have y2 := cell_regrown HX4.out.c2
                have y3 := cell_regrown HX4.out.c3
                refine wp_region_quiet_below (by kernel_rfl) (by kernel_rfl) ?_
                repeat (quiet_step (first | fail))
                refine wpQuiet_nil ?_
                intro _ hw'
                obtain ⟨⟨dq, osq⟩, hw''⟩ := hw'
                subst hw''
                have HBQ := Lib.hid (below_regrown w4 dq osq)
                clear x0 x1 x2 x3 y0 y1 y2 y3
                generalize Go.Sort.grow (redrawn w4 dq) osq = w6 at *
                go_wp2_with fail
                go_roundw
                case rel => exact ⟨k + 1, by omega, by go_num, Cell.bel_trans HB4.out HBQ.out⟩
                case measure => simp [intOf]; omega
              · have S0 := fun w => Cell.sameR_any u.k u.i u.s u.b v.k v.i v.s v.b w
                have es : sameR u.k u.i u.s u.b v.k v.i v.s v.b = u.same v := rfl
                rw [es, ← hb2] at S0
                have SS := Lib.hid S0
                clear es S0 hb2
                have x0 := cell_regrown HVU.out.c0
                have x1 := cell_regrown HVU.out.c1
                have x2 := cell_regrown HVU.out.c2
                have x3 := cell_regrown HVU.out.c3
                have y0 := cell_regrown HX4.out.c0
                have y1 := cell_regrown HX4.out.c1
                have y2 := cell_regrown HX4.out.c2
                have y3 := cell_regrown HX4.out.c3
                have q0 := fun d os => Calls.regrown_of (w := w4) (d := d) (os := os) (SS.out _)
                refine wp_region_quiet_below (by kernel_rfl) (by kernel_rfl) ?_
                repeat (quiet_step (first | (with_reducible exact q0 _ _)))
                refine wpQuiet_nil ?_
                intro _ hw'
                obtain ⟨⟨dq, osq⟩, hw''⟩ := hw'
                subst hw''
                have HBQ := Lib.hid (below_regrown w4 dq osq)
                clear x0 x1 x2 x3 y0 y1 y2 y3 q0
                generalize Go.Sort.grow (redrawn w4 dq) osq = w6 at *
                go_wp2_with fail
                go_roundw
                case rel => exact ⟨k + 1, by omega, by go_num, Cell.bel_trans HB4.out HBQ.out⟩
                case measure => simp [intOf]; omega
          · have HXX := HX
            rw [hb1] at HXX
            have L1 := Lib.hid (kless_any (rowBytes (rl.take m)) v.bytes _ _ _ _ _ _ _ HQ4.out HP24.out)
            rw [hb1] at L1
            have HE : Hid (false = v.bytes.isPrefixOf (rowBytes (rl.take m))) := Lib.hid (by simpa using HXX.out)
            clear hb1 HXX HX
            go_wp2_with fail
            refine L1.out.mono ?_
            rintro e w5 ⟨rfl, rfl⟩
            go_wp2_with fail
            rcases hcs with ⟨hrn, hpf⟩ | ⟨u, hu0, hrn, hur, hui, hpf⟩
            · subst hrn
              clear hpf HE
              refine wp_region_quiet_below (by kernel_rfl) (by kernel_rfl) ?_
              repeat (quiet_step (first | fail))
              refine wpQuiet_nil ?_
              intro _ hw'
              obtain ⟨⟨dq, osq⟩, hw''⟩ := hw'
              subst hw''
              have HBQ := Lib.hid (below_regrown w4 dq osq)
              generalize Go.Sort.grow (redrawn w4 dq) osq = w6 at *
              go_wp2_with fail
              go_roundw
              case rel => exact ⟨k + 1, by omega, by go_num, Cell.bel_trans HB4.out HBQ.out⟩
              case measure => simp [intOf]; omega
            · obtain ⟨rad, hRA, hrAt⟩ := HR4.out.at_ hrn
              subst hRA
              have HVU : Hid (ValAt w4 rad u) := Lib.hid (by have := hrAt.val hu0; simpa [Addr.add] using this)
              have hrn' : (0 : Int) < rn := by omega
              have h00 : (0 : Int) ≤ 0 := Int.le_refl _
              have hb2 : false = u.same v := by rw [HE.out, hpf]
              have HSK := Lib.hid (same_kind hur HR1.out hui HV.out.1)
              clear hpf HE hrAt hu0 hur hui
              cases hkk : (u.k == v.k)
              · clear hb2
                have x0 := cell_regrown HVU.out.c0
                have x1 := cell_regrown HVU.out.c1
                have x2 := cell_regrown HVU.out.c2
                have x3 := cell_regrown HVU.out.c3
                have y0 := cell_regrown HX4.out.c0
                have y1 := cell_regrown HX4.out.c1
                have y2 := cell_regrown HX4.out.c2
                have y3 := cell_regrown HX4.out.c3
                refine wp_region_quiet_below (by kernel_rfl) (by kernel_rfl) ?_
                repeat (quiet_step (first | fail))
                refine wpQuiet_nil ?_
                intro _ hw'
                obtain ⟨⟨dq, osq⟩, hw''⟩ := hw'
                subst hw''
                have HBQ := Lib.hid (below_regrown w4 dq osq)
                clear x0 x1 x2 x3 y0 y1 y2 y3
                generalize Go.Sort.grow (redrawn w4 dq) osq = w6 at *
                go_wp2_with fail
                go_roundw
                case rel => exact ⟨k + 1, by omega, by go_num, Cell.bel_trans HB4.out HBQ.out⟩
                case measure => simp [intOf]; omega
              · have S0 := fun w => Cell.sameR_any u.k u.i u.s u.b v.k v.i v.s v.b w
                have es : sameR u.k u.i u.s u.b v.k v.i v.s v.b = u.same v := rfl
                rw [es, ← hb2] at S0
                have SS := Lib.hid S0
                clear es S0 hb2
                have x0 := cell_regrown HVU.out.c0
                have x1 := cell_regrown HVU.out.c1
                have x2 := cell_regrown HVU.out.c2
                have x3 := cell_regrown HVU.out.c3
                have y0 := cell_regrown HX4.out.c0
                have y1 := cell_regrown HX4.out.c1
                have y2 := cell_regrown HX4.out.c2
                have y3 := cell_regrown HX4.out.c3
                have q0 := fun d os => Calls.regrown_of (w := w4) (d := d) (os := os) (SS.out _)
                refine wp_region_quiet_below (by kernel_rfl) (by kernel_rfl) ?_
                repeat (quiet_step (first | (with_reducible exact q0 _ _)))
                refine wpQuiet_nil ?_
                intro _ hw'
                obtain ⟨⟨dq, osq⟩, hw''⟩ := hw'
                subst hw''
                have HBQ := Lib.hid (below_regrown w4 dq osq)
                clear x0 x1 x2 x3 y0 y1 y2 y3 q0
                generalize Go.Sort.grow (redrawn w4 dq) osq = w6 at *
                go_wp2_with fail
                go_roundw
                case rel => exact ⟨k + 1, by omega, by go_num, Cell.bel_trans HB4.out HBQ.out⟩
                case measure => simp [intOf]; omega
      · have h20' : ¬ (k : Int) < 20 := by omega
        have hlt' : (k : Int) < N := by omega
        obtain ⟨r, hr⟩ : ∃ r, L[k]? = some r := ⟨_, List.getElem?_eq_getElem (by rw [HNL.out]; exact hlt)⟩
        obtain ⟨RA, rn, rc, rl⟩ := r
        obtain ⟨ad, hA, hAt⟩ := HS.out.at_ (by omega)
        subst hA
        have z0 : wr.cell? (ad.add k) = some (.slice RA rn rc) := (hAt.below (Cell.bel_trans HW3.out HBR.out)).2 k _ (by rw [List.getElem?_map, hr]; rfl)
        clear hAt hr
        go_wp2_with fail
        go_ret
        exact ⟨rfl, Cell.bel_trans HW3.out HBR.out⟩
    · obtain rfl : k = N := by omega
      go_wp2_with fail
      go_ret
      exact ⟨rfl, Cell.bel_trans HW3.out HBR.out⟩
theorem finds_walk (w : World) (k i : Int) (s : ByteArray) (b : Bool) (L : List R) (A : Option Addr) (N c : Nat) (hv : (⟨k, i, s, b⟩ : V).ok) (hs : Sl w w.heap.size 1 A N c (L.map R.val) ∧ ∀ q ∈ L, R.ok w q) (hU : U8 w) :
    Calls Tryd.prog 8 #[.agg #[.int .u8 k, .int .i64 i, .string s, .bool b], .slice A N c] w fun e w' => e = .returned (.bool true) ∧ Below w.heap.size w w' := by
  cases hr : (⟨k, i, s, b⟩ : V).right
  · exact finds_n ⟨k, i, s, b⟩ A N c w hv hr hU
  · exact finds_y ⟨k, i, s, b⟩ A N c L w hs.1 hs.2 hv hr hU
end Go.Proofs.YtcffpinelpllhaaDoor.Mem
