/- SnapOne: its walk. -/
import Derived.Test.YtaadkgcpkghgmaaSnapO
namespace Go.Proofs.Ytaadkgcpkghgmaa.Clg
open Go.ChangeMaps Go.MapKept Go.RowKit Go.Proofs.Ytaadkgcpkghgmaa.Nums Go.Proofs.Ytaadkgcpkghgmaa.Mem
set_option linter.unusedVariables false
set_option linter.unusedSimpArgs false
set_option maxRecDepth 100000
theorem cas_cells {w : World} {A : Option Addr} {n c : Nat} {l : List Sp} (h : Sl w w.heap.size 4 A n c (cas l)) {w' : World} (hb : Below w.heap.size w w') {k : Nat} {o : Sp} (ho : l[k]? = some o) (hn : l.length = n) : ∃ ad, A = some ad ∧
    w'.cell? (ad.add (k * 4)) = some (.int .u64 (o.own : Int)) ∧ w'.cell? ⟨(ad.add (k * 4)).block, (ad.add (k * 4)).off + 1, none⟩ = some (.int .u64 (o.xmin : Int)) ∧ w'.cell? ⟨(ad.add (k * 4)).block, (ad.add (k * 4)).off + 2, none⟩ = some (.int .u64 (o.xmax : Int)) ∧ w'.cell? ⟨(ad.add (k * 4)).block, (ad.add (k * 4)).off + 3, none⟩ = some (.slice o.A o.run.length o.c) := by
  have hk := (List.getElem?_eq_some_iff.1 ho).1
  obtain ⟨ad, hA, hat⟩ := h.at_ (by omega)
  have key : ∀ j y, o.ca[j]? = some y → j < 4 → w'.cell? (ad.add (k * 4 + j)) = some y := fun j y hy hj => (hat.below hb).2 (k * 4 + j) y (by rw [cas_at l k o ho j hj]; exact hy)
  have e : ∀ j y, o.ca[j + 1]? = some y → j + 1 < 4 → w'.cell? ⟨(ad.add (k * 4)).block, (ad.add (k * 4)).off + (j + 1), none⟩ = some y := fun j y hy hj => by
    rw [← off_succ]
    exact key _ _ hy hj
  exact ⟨ad, hA, key 0 _ rfl (by omega), e 0 _ rfl (by omega), e 1 _ rfl (by omega), e 2 _ rfl (by omega)⟩
set_option maxHeartbeats 8000000 in
theorem one_walk (w : World) (l : List O10) (A : Option Addr) (n c : Nat) (ml : List By) (MA : Option Addr) (mn mc : Nat) (hl : l.length = n) (hs : Sl w w.heap.size 2 A n c (o10_s l)) (hok : ∀ o ∈ l, o.ok) (hml : ml.length = mn) (hms : Sl w w.heap.size 1 MA mn mc (by_s ml)) (hmok : ∀ o ∈ ml, o.ok) :
    Calls Try.prog 7 #[.slice A n c, .slice MA mn mc] w fun e w' => e = .returned (.bool true) ∧ Below w.heap.size w w' := by
  have HS := Lib.hid hs
  have HL := Lib.hid hl
  have HOK := Lib.hid hok
  have HMS := Lib.hid hms
  have HML := Lib.hid hml
  have HMOK := Lib.hid hmok
  have hcap := hs.cap
  have hle := hs.le
  have hmcap := hms.cap
  have hmle := hms.le
  unfold maxLen at hcap hmcap
  have hmm := @run_makeMap Try.prog
  clear hs hl hok hms hml hmok
  go_enter Try.func7, Try.ntmps7
  go_wp2_with fail
  refine (awakeS_any w).mono ?_
  rintro e w1 ⟨rfl, hb1⟩
  have HB1 := Lib.hid hb1
  have CP : Hid (Calls Try.prog 13 #[.slice A n c, .int .i64 40] w1 (PlayP w1)) := Lib.hid (play_any w1 l A n c 40 (by omega) HL.out (Sl.on HS.out hb1) HOK.out)
  clear hb1
  go_wp2_with fail
  refine CP.out.mono ?_
  rintro e w2 ⟨K, PB, P, Q, S, sl, A1, c1, B1, d1, rfl, hps, hl40⟩
  have HPS := Lib.hid hps
  have HB2 := Lib.hid (bel_trans HB1.out hps.ap.bel)
  clear hps CP
  have HS1 : Hid (S1 w2 (w2.alloc (.map #[] 0)) w2.heap.size 0 [] none 0 (.map [])) := Lib.hid ⟨bel_alloc _ _, Nat.le_refl _, World.ownsMap_made _ _ _ _, World.ownsRow_nil _ _ _ _, ch_nil, by simp⟩
  go_wp2_with fail
  generalize hM : w2.heap.size = M at HS1 ⊢
  clear hM
  go_loopw [7, 30] (fun v i wr => ∃ q : Nat, q ≤ mn ∧ i = .int .i64 q ∧ ∃ tl D A2 c2, v = .slice A2 tl.length c2 ∧ tl.length ≤ 12 ∧ S1 w2 wr M q tl A2 c2 D) (fun _ i _ => mn - (intOf i).toNat)
  case atStart => exact ⟨0, by omega, rfl, [], _, none, 0, rfl, by simp, HS1.out⟩
  case round =>
    obtain ⟨q, hq, rfl, tl, D, A2, c2, rfl, htl, hs1⟩ := hrel
    have HS2 := Lib.hid hs1
    clear hs1 HS1
    by_cases hlq : q < mn
    · have hlq' : (q : Int) < mn := by omega
      obtain ⟨o, ho⟩ : ∃ o, ml[q]? = some o := ⟨_, List.getElem?_eq_getElem (by rw [HML.out]; exact hlq)⟩
      obtain ⟨ad, rfl, x0⟩ := by_cells HMS.out (bel_trans HB2.out HS2.out.bel) ho HML.out
      have hz := HMOK.out o (List.mem_of_getElem? ho)
      obtain ⟨z⟩ := o
      have hz : z < 256 := hz
      have hz0 : (z : Int) < 256 := by omega
      obtain ⟨x, hx⟩ : ∃ x : Nat, z % 40 = x := ⟨_, rfl⟩
      have hx' : (z : Int) % 40 = x := by omega
      have hx40 : x < 40 := by omega
      have x0' : wr.cell? (ad.add q) = some (.int .u8 (z : Int)) := by have := x0; rwa [Nat.mul_one] at this
      clear ho hx
      by_cases h12 : 12 ≤ q
      · have h12' : (12 : Int) ≤ q := by omega
        go_wp2_with fail
        go_roundw
        case rel => exact ⟨q + 1, by omega, by go_num, tl, D, A2, c2, rfl, htl, HS2.out.next⟩
        case measure => simp [intOf]; omega
      · have h12' : ¬ (12 : Int) ≤ q := by omega
        by_cases hx0 : x = 0
        · subst hx0
          go_wp2_with fail
          go_roundw
          case rel => exact ⟨q + 1, by omega, by go_num, tl, D, A2, c2, rfl, htl, HS2.out.next⟩
          case measure => simp [intOf]; omega
        · have hx0' : ((x : Int) == 0) = false := by rw [beq_eq_false_iff_ne]; omega
          have hx0'' : ¬ (x : Int) = 0 := by omega
          obtain ⟨b, hrd⟩ := HS2.out.map.gets (x := x) (by omega)
          have hq12 : q < 12 := by omega
          cases b
          rotate_left
          · go_wp2_with fail
            go_roundw
            case rel => exact ⟨q + 1, by omega, by go_num, tl, D, A2, c2, rfl, htl, HS2.out.next⟩
            case measure => simp [intOf]; omega
          · have HKY := Lib.hid (Maps.keyOf_int_mk Try.underlying28 (wfU (x := x) (by omega)))
            have HQM : Hid (q < maxLen) := Lib.hid (by unfold maxLen; omega)
            have HPE : Hid (plainElem (H := Unit) Try.prog 4 (.bool true) = some (.lit (.bool true), [])) := Lib.hid (plainElem_bool Try.underlying4 true)
            have CTU := Lib.hid (fun W => tuple_any W x 0)
            have hle2 := HS2.out.le
            have hnew : Hid (x ≠ 0 ∧ x < 40) := Lib.hid ⟨hx0, hx40⟩
            by_cases hk : tl = []
            · subst hk
              go_wp2_with (first | (at_mapUpdate; refine wpList_mapUpdate_in _ rfl _ _ _ 75 rfl 28 4 lawU Try.underlying75 _ M q D rfl HS2.out.map HQM.out _ _ _ rfl rfl HKY.out _ [] HPE.out ?_; intro w6 hown6 hturn6; have HS6 := Lib.hid (HS2.out.mapped hown6 hturn6); clear hown6 hturn6) | fail)
              refine (CTU.out _).mono ?_
              rintro e w7 ⟨rfl, hb7⟩
              have HS7 := Lib.hid (HS6.out.below hb7)
              clear hb7 hrd HS6 HKY HPE CTU
              go_wp2_with (first | (at_builtin; go_loud (refine wpl_app_t rfl (.tmp 61) (.tmp 64) rfl w2.heap.size _ 0 [] rfl (HS7.out.own.alloc _) _ _ 1 _ rfl (lies_lit _ _ _ 6 1 rfl) (tup_one (x, 0)) (by omega) (by rw [size_alloc]; have := HS7.out.bel.size; omega) ?_; intro v1 w8 hown1 hk1; obtain ⟨A9, c9, hv9, hs9⟩ := s1_app HS7.out.bel HS2.out.hM HS7.out.map HS7.out.own (tl' := [(x, 0)]) (by exact hown1) hk1 rfl (ch_one hnew.out.1 hnew.out.2) (by omega); subst hv9; have HS9 := Lib.hid hs9; clear hown1 hk1 hs9)) | fail)
              go_roundw
              case rel => exact ⟨q + 1, by omega, by go_num, [(x, 0)], _, A9, c9, rfl, by simp, HS9.out⟩
              case measure => simp [intOf]; omega
            · obtain ⟨k, hkl⟩ : ∃ k, tl.length = k + 1 := ⟨tl.length - 1, by have := List.length_pos_iff.2 hk; omega⟩
              obtain ⟨t0, a0, b0, rfl, ht0⟩ := last_of hkl
              have hk1 : (k : Int) + 1 - 1 = k := by omega
              have hk12 : k < 12 := by omega
              have HT0 := Lib.hid ht0
              have HKL := Lib.hid hkl
              rw [hkl]
              have HC := Lib.hid (ch_snoc HS2.out.ch hnew.out.1 hnew.out.2)
              clear hk hkl
              have hkp : (0 : Int) < (k : Int) + 1 := by omega
              go_wp2_with (first | (at_mapUpdate; refine wpList_mapUpdate_in _ rfl _ _ _ 75 rfl 28 4 lawU Try.underlying75 _ M q D rfl HS2.out.map HQM.out _ _ _ rfl rfl HKY.out _ [] HPE.out ?_; intro w6 hown6 hturn6; have HS6 := Lib.hid (HS2.out.mapped hown6 hturn6); obtain ⟨g2, hg2, ⟨u2, y0⟩, y1, hbe, hme, hoe⟩ := HS6.out.ended (x := x); rw [ht0] at y0 y1 hbe hme hoe; subst hg2; have HBE := Lib.hid hbe; have HME := Lib.hid hme; have HOE := Lib.hid hoe; clear hown6 hturn6 hbe hme hoe) | fail)
              refine (CTU.out _).mono ?_
              rintro e w7 ⟨rfl, hb7⟩
              have HB7 := Lib.hid (HBE.out.trans (hb7.mono HBE.out.size))
              have HM7 := Lib.hid (HME.out.keep (hb7.block M HME.out.lt))
              have HO7 : Hid (OwnT w7 w2.heap.size (.slice (some ⟨g2, 0, none⟩) (k + 1) c2) (k + 1) (tups (t0 ++ [(a0, x)]))) := Lib.hid (own_keep HOE.out fun g hg => hb7.block g (World.ownsRow.lt HOE.out g hg).2)
              clear hb7 hrd HKY HPE CTU y0 y1
              have hkq : k + 1 ≤ q := by have := HKL.out; omega
              go_wp2_with (first | (at_builtin; go_loud (refine wpl_app_t rfl (.tmp 61) (.tmp 64) rfl w2.heap.size _ (k + 1) (tups (t0 ++ [(a0, x)])) rfl (HO7.out.alloc _) _ _ 1 _ rfl (lies_lit _ _ _ 6 1 rfl) (tup_one (x, 0)) (by omega) (by rw [size_alloc]; have := HB7.out.size; omega) ?_; intro v1 w8 hown1 hk1; obtain ⟨A9, c9, hv9, hs9⟩ := s1_app HB7.out HS2.out.hM HM7.out HO7.out (tl' := t0 ++ [(a0, x)] ++ [(x, 0)]) (by rw [tups_app]; exact hown1) hk1 (by simp [HT0.out]) HC.out (by omega); subst hv9; have HS9 := Lib.hid hs9; clear hown1 hk1 hs9)) | fail)
              go_roundw
              case rel =>
                have hlen : (t0 ++ [(a0, x)] ++ [(x, 0)]).length = k + 2 := by simp [HT0.out]
                exact ⟨q + 1, by omega, by go_num, t0 ++ [(a0, x)] ++ [(x, 0)], _, A9, c9, by rw [hlen], by have := HT0.out; simp [this]; omega, HS9.out⟩
              case measure => simp [intOf]; omega
    · obtain rfl : q = mn := by omega
      have HB2V := Lib.hid HS2.out.bel
      have HPSV := Lib.hid (HPS.out.below HS2.out.bel)
      have HC := Lib.hid HS2.out.ch
      obtain ⟨p, hp⟩ : ∃ p, sl.length = p := ⟨_, rfl⟩
      obtain ⟨m, hm⟩ : ∃ m, tl.length = m := ⟨_, rfl⟩
      have HCA : Hid (Sl wr wr.heap.size 4 A1 p c1 (cas sl)) := Lib.hid (by
        have h := HPSV.out.oa
        rw [hp] at h
        obtain ⟨A', c', e, hs⟩ := Sl.of_own h
        injection e with e1 _ e3
        subst e1 e3
        exact hs)
      have HOT := HS2.out.own
      rw [hm] at HOT htl
      rw [hm]
      have HTA : Hid (Sl wr wr.heap.size 6 A2 m c2 (tups tl)) := Lib.hid (by
        obtain ⟨A', c', e, hs⟩ := Sl.of_own HOT
        injection e with e1 _ e3
        subst e1 e3
        exact hs)
      have HOT := Lib.hid HOT
      have hle1 := HCA.out.le
      have hcap1 := HCA.out.cap
      have hle2 := HTA.out.le
      have hcap2 := HTA.out.cap
      unfold maxLen at hcap1 hcap2
      have q2 := HPSV.out.pb.cell 2
      rw [hp] at q2
      have HP := Lib.hid hp
      have HM := Lib.hid hm
      have HWR := Lib.hid (bel_trans HB2.out HS2.out.bel)
      have HPSW : Hid (∀ W, Below wr.heap.size wr W → PS w1 W K PB P Q S sl A1 c1 B1 d1) := Lib.hid (fun W h => HPSV.out.below h)
      simp only [List.getElem?_toArray, List.getElem?_cons_zero, List.getElem?_cons_succ] at q2
      clear hp hm HS2 HPS hl40 hlq
      go_wp2_with fail
      clear q2
      generalize hV0 : wr = V0 at *
      clear hV0 wr
      go_loopw [72] (fun i wo => ∃ t : Nat, t ≤ p ∧ i = .int .i64 t ∧ Below V0.heap.size V0 wo) (fun i _ => p - (intOf i).toNat)
      case atStart => exact ⟨0, by omega, rfl, Below.refl _ _⟩
      case round =>
        obtain ⟨t, ht, rfl, hbo⟩ := hrel
        have HBO := Lib.hid hbo
        clear hbo
        by_cases htp : t < p
        · have htp' : (t : Int) < p := by omega
          obtain ⟨sp, hsp⟩ : ∃ sp, sl[t]? = some sp := ⟨_, List.getElem?_eq_getElem (by rw [HP.out]; exact htp)⟩
          obtain ⟨ad3, rfl, y0, y1, y2, y3⟩ := cas_cells HCA.out HBO.out hsp HP.out
          have HSPM := Lib.hid (List.mem_of_getElem? hsp)
          clear hsp
          obtain ⟨ow, xm, xx, run, RA, rc, RB, rd⟩ := sp
          obtain ⟨rn, hrn⟩ : ∃ rn, run.length = rn := ⟨_, rfl⟩
          obtain ⟨bS, hbS⟩ : ∃ bS : Nat → Bool, bS = seesB 1 S ow xx run := ⟨_, rfl⟩
          have HSEES : Hid (∀ W, Below V0.heap.size V0 W → ∀ (x : Nat), x < 18446744073709551616 → Calls Try.prog 19 #[.pointer (some ⟨P, 0, none⟩), .agg #[.int .u64 (ow : Int), .int .u64 (xm : Int), .int .u64 (xx : Int), .slice RA rn rc], .int .u64 (x : Int)] W fun e w' => e = .returned (.bool (bS x)) ∧ Below W.heap.size W w') := Lib.hid (fun W h x hx => by
            have hps := HPSW.out W h
            obtain ⟨F, hal⟩ := hps.ap.al
            have := sees_any hal hps.ok (own := ow) (xmin := xm) (xmax := xx) (hps.sp _ HSPM.out).1.a hx
            rw [← hbS] at this
            rw [← hrn]
            exact this)
          have HVIS : Hid (∀ W, Below V0.heap.size V0 W → ∀ (a b : Nat), a < 18446744073709551616 → b < 18446744073709551616 → Calls Try.prog 21 #[.pointer (some ⟨P, 0, none⟩), .agg #[.int .u64 (ow : Int), .int .u64 (xm : Int), .int .u64 (xx : Int), .slice RA rn rc], .agg #[.int .u64 0, .int .u64 (a : Int), .int .u64 (b : Int), .int .i64 0, .int .i64 0, .slice none 0 0]] W fun e w' => e = .returned (.bool (bS a && (b == 0 || !bS b))) ∧ Below W.heap.size W w') := Lib.hid (fun W h a b ha hb => by
            have hps := HPSW.out W h
            obtain ⟨F, hal⟩ := hps.ap.al
            have := visible_any hal hps.ok (own := ow) (xmin := xm) (xmax := xx) (hps.sp _ HSPM.out).1.a ha hb
            unfold visB at this
            rw [← hbS] at this
            rw [← hrn]
            exact this)
          simp only [hrn] at y3
          clear hbS hrn HSPM
          go_wp2_with fail
          clear y0 y1 y2 y3
          have HB4 : Hid (Below V0.heap.size V0 (wr.alloc (.cells #[.int .u64 (ow : Int), .int .u64 (xm : Int), .int .u64 (xx : Int), .slice RA rn rc] 48))) := Lib.hid (HBO.out.alloc HBO.out.size _)
          have HK4 : Hid (Blk (wr.alloc (.cells #[.int .u64 (ow : Int), .int .u64 (xm : Int), .int .u64 (xx : Int), .slice RA rn rc] 48)) wr.heap.size 48 #[.int .u64 (ow : Int), .int .u64 (xm : Int), .int .u64 (xx : Int), .slice RA rn rc]) := Lib.hid (Blk.new _ _ _)
          generalize (wr.alloc (.cells #[.int .u64 (ow : Int), .int .u64 (xm : Int), .int .u64 (xx : Int), .slice RA rn rc] 48)) = W4 at *
          generalize wr.heap.size = gS at *
          clear HBO
          go_loopw [15, 78] (fun v i wi => ∃ k : Nat, k ≤ m ∧ i = .int .i64 k ∧ ∃ z, v = .int .i64 z ∧ Good bS tl k z ∧ Below W4.heap.size W4 wi) (fun _ i _ => m - (intOf i).toNat)
          case atStart => exact ⟨0, by omega, rfl, 0, rfl, good_zero _ _, Below.refl _ _⟩
          case round =>
            obtain ⟨k, hk, rfl, z, rfl, hgood, hbi⟩ := hrel
            obtain ⟨hz1, hz2⟩ := hgood.bounds (by omega)
            have HGOOD := Lib.hid hgood
            have HBI := Lib.hid hbi
            clear hgood hbi
            by_cases hkm : k < m
            · have hkm' : (k : Int) < m := by omega
              obtain ⟨⟨ta, tb⟩, htk⟩ : ∃ x, tl[k]? = some x := ⟨_, List.getElem?_eq_getElem (by rw [HM.out]; exact hkm)⟩
              obtain ⟨g2, hg2⟩ : ∃ g2, A2 = some ⟨g2, 0, none⟩ := by
                obtain ⟨g, cap, e, _⟩ := World.ownsRow.form HOT.out (by omega)
                injection e with e1
                exact ⟨g, e1⟩
              subst hg2
              obtain ⟨ad2, hA2, x0, x1, x2, x3, x4, x5⟩ := tup_cells HTA.out (HB4.out.trans (HBI.out.mono HB4.out.size)) htk HM.out
              injection hA2 with hA2
              subst hA2
              have hta := HC.out.nz k ta tb htk
              have HTAB : Hid (ta < 18446744073709551616 ∧ tb < 18446744073709551616) := Lib.hid (by omega)
              have hk12 : k < 12 := by omega
              simp only [add_flat] at x0 x1 x2 x3 x4 x5
              have HTK := Lib.hid htk
              clear htk hta
              go_wp2_with fail
              clear x0 x1 x2 x3 x4 x5
              have HB45 : Hid (Below W4.heap.size W4 (wr.alloc (.cells #[.int .u64 0, .int .u64 (ta : Int), .int .u64 (tb : Int), .int .i64 0, .int .i64 0, .slice none 0 0] 42))) := Lib.hid (HBI.out.alloc HBI.out.size _)
              have HKT : Hid (Blk (wr.alloc (.cells #[.int .u64 0, .int .u64 (ta : Int), .int .u64 (tb : Int), .int .i64 0, .int .i64 0, .slice none 0 0] 42)) wr.heap.size 42 #[.int .u64 0, .int .u64 (ta : Int), .int .u64 (tb : Int), .int .i64 0, .int .i64 0, .slice none 0 0]) := Lib.hid (Blk.new _ _ _)
              generalize (wr.alloc (.cells #[.int .u64 0, .int .u64 (ta : Int), .int .u64 (tb : Int), .int .i64 0, .int .i64 0, .slice none 0 0] 42)) = W5 at *
              generalize wr.heap.size = gT at *
              have HKS := Lib.hid (HK4.out.below HB45.out HK4.out.lt)
              have HB24 := Lib.hid (HB4.out.trans (HB45.out.mono HB4.out.size))
              obtain ⟨vv, hvv⟩ : ∃ vv, (bS ta && (tb == 0 || !bS tb)) = vv := ⟨_, rfl⟩
              have HVV := Lib.hid hvv
              clear hvv HBI
              rcases (show k = 0 ∨ 0 < k ∧ bS ta = false ∨ 0 < k ∧ bS ta = true by cases bS ta <;> simp <;> omega) with hk00 | ⟨hk0, hsa⟩ | ⟨hk0, hsa⟩
              · have hk0' : decide (0 < k) = false := by rw [decide_eq_false_iff_not]; omega
                have HK00 := Lib.hid hk00
                have HG : Hid (Good bS tl (k + 1) (if (bS ta && (tb == 0 || !bS tb)) = true then z + 1 else z)) := Lib.hid (Good.calm HC.out HGOOD.out HTK.out (fun _ h => absurd h (by omega)))
                clear hk00
                refine Reg.wp_region_inv_lit (by kernel_rfl) (by kernel_rfl) (fun D vals W => Reg.Fx (fun k9 => ([some (.int .i64 (k : Int)), some (.bool false), some (.bool false), some (undef), some (undef), some (undef), some (undef), some (undef), some (undef), some (undef), some (undef), some (.bool false), some (.bool false), some (undef), some (undef), some (undef), some (undef), some (undef), some (undef), some (undef), some (undef), some (undef), some (undef), some (undef), some (undef), some (undef), some (.bool false)] : List (Option Value)).getD k9 none) D vals ∧ Below W5.heap.size W5 W) ⟨Reg.Fx.init _ _, ⟨rfl, rfl, rfl, Nat.le_refl _, fun _ _ => rfl⟩⟩ (fun Q' => ?_) ?_
                · refine Reg.Steps.cons (k' := 1) rfl ?_ ?_
                  · intro D vals a W hR hd hde ev K' hK
                    have HB := hR.2
                    have x16 : a.tmps[16]? = some (.int .i64 (k : Int)) := (ev.out 16 (by kernel_rfl)).trans rfl
                    clear hde ev hd HB
                    go_simp
                    exact hK _ _ ⟨hR.1.step (.inr rfl), hR.2⟩
                  refine Reg.Steps.cons (k' := 2) rfl ?_ ?_
                  · intro D vals a W hR hd hde ev K' hK
                    have HB := hR.2
                    have d0 := Reg.dep hde 0 rfl
                    have x83 : a.tmps[83]? = some (.int .i64 (k : Int)) := ev.got hR.1 0 83 _ rfl rfl d0
                    clear hde ev hd HB
                    go_simp
                    exact hK _ _ ⟨hR.1.step (.inr rfl), hR.2⟩
                  refine Reg.Steps.cons (k' := 3) rfl ?_ ?_
                  · intro D vals a W hR hd hde ev K' hK
                    have HB := hR.2
                    have d1 := Reg.dep hde 1 rfl
                    have x84 : a.tmps[84]? = some (.bool false) := ev.got hR.1 1 84 _ rfl rfl d1
                    clear hde ev hd HB
                    go_simp
                    exact hK _ _ ⟨hR.1.step (.inr rfl), hR.2⟩
                  refine Reg.Steps.cons (k' := 4) rfl ?_ ?_
                  · intro D vals a W hR hd hde ev K' hK
                    have HB := hR.2
                    have dg := Reg.dep hde 2 rfl
                    have xg : a.tmps[85]? = some (.bool false) := ev.got hR.1 2 85 _ rfl rfl dg
                    rw [if_neg (Reg.wanted_not rfl (Reg.yielded_of (t := 85) rfl xg) (by decide))]
                    exact hK _ _ ⟨hR.1.step (.inr rfl), HB⟩
                  refine Reg.Steps.cons (k' := 5) rfl ?_ ?_
                  · intro D vals a W hR hd hde ev K' hK
                    have HB := hR.2
                    have dg := Reg.dep hde 2 rfl
                    have xg : a.tmps[85]? = some (.bool false) := ev.got hR.1 2 85 _ rfl rfl dg
                    rw [if_neg (Reg.wanted_not rfl (Reg.yielded_of (t := 85) rfl xg) (by decide))]
                    exact hK _ _ ⟨hR.1.step (.inr rfl), HB⟩
                  refine Reg.Steps.cons (k' := 6) rfl ?_ ?_
                  · intro D vals a W hR hd hde ev K' hK
                    have HB := hR.2
                    have dg := Reg.dep hde 2 rfl
                    have xg : a.tmps[85]? = some (.bool false) := ev.got hR.1 2 85 _ rfl rfl dg
                    rw [if_neg (Reg.wanted_not rfl (Reg.yielded_of (t := 85) rfl xg) (by decide))]
                    exact hK _ _ ⟨hR.1.step (.inr rfl), HB⟩
                  refine Reg.Steps.cons (k' := 7) rfl ?_ ?_
                  · intro D vals a W hR hd hde ev K' hK
                    have HB := hR.2
                    have dg := Reg.dep hde 2 rfl
                    have xg : a.tmps[85]? = some (.bool false) := ev.got hR.1 2 85 _ rfl rfl dg
                    rw [if_neg (Reg.wanted_not rfl (Reg.yielded_of (t := 85) rfl xg) (by decide))]
                    exact hK _ _ ⟨hR.1.step (.inr rfl), HB⟩
                  refine Reg.Steps.cons (k' := 8) rfl ?_ ?_
                  · intro D vals a W hR hd hde ev K' hK
                    have HB := hR.2
                    have dg := Reg.dep hde 2 rfl
                    have xg : a.tmps[85]? = some (.bool false) := ev.got hR.1 2 85 _ rfl rfl dg
                    rw [if_neg (Reg.wanted_not rfl (Reg.yielded_of (t := 85) rfl xg) (by decide))]
                    exact hK _ _ ⟨hR.1.step (.inr rfl), HB⟩
                  refine Reg.Steps.cons (k' := 9) rfl ?_ ?_
                  · intro D vals a W hR hd hde ev K' hK
                    have HB := hR.2
                    have dg := Reg.dep hde 2 rfl
                    have xg : a.tmps[85]? = some (.bool false) := ev.got hR.1 2 85 _ rfl rfl dg
                    rw [if_neg (Reg.wanted_not rfl (Reg.yielded_of (t := 85) rfl xg) (by decide))]
                    exact hK _ _ ⟨hR.1.step (.inr rfl), HB⟩
                  refine Reg.Steps.cons (k' := 10) rfl ?_ ?_
                  · intro D vals a W hR hd hde ev K' hK
                    have HB := hR.2
                    have dg := Reg.dep hde 2 rfl
                    have xg : a.tmps[85]? = some (.bool false) := ev.got hR.1 2 85 _ rfl rfl dg
                    rw [if_neg (Reg.wanted_not rfl (Reg.yielded_of (t := 85) rfl xg) (by decide))]
                    exact hK _ _ ⟨hR.1.step (.inr rfl), HB⟩
                  refine Reg.Steps.cons (k' := 11) rfl ?_ ?_
                  · intro D vals a W hR hd hde ev K' hK
                    have HB := hR.2
                    have dg := Reg.dep hde 2 rfl
                    have xg : a.tmps[85]? = some (.bool false) := ev.got hR.1 2 85 _ rfl rfl dg
                    rw [if_neg (Reg.wanted_not rfl (Reg.yielded_of (t := 85) rfl xg) (by decide))]
                    exact hK _ _ ⟨hR.1.step (.inr rfl), HB⟩
                  refine Reg.Steps.cons (k' := 12) rfl ?_ ?_
                  · intro D vals a W hR hd hde ev K' hK
                    have HB := hR.2
                    have d2 := Reg.dep hde 2 rfl
                    have x85 : a.tmps[85]? = some (.bool false) := ev.got hR.1 2 85 _ rfl rfl d2
                    have d10 := Reg.dep hde 10 rfl
                    have x93 : a.tmps[93]? = some (undef) := ev.got hR.1 10 93 _ rfl rfl d10
                    clear hde ev hd HB
                    go_simp
                    exact hK _ _ ⟨hR.1.step (.inr rfl), hR.2⟩
                  refine Reg.Steps.cons (k' := 13) rfl ?_ ?_
                  · intro D vals a W hR hd hde ev K' hK
                    have HB := hR.2
                    have d11 := Reg.dep hde 11 rfl
                    have x94 : a.tmps[94]? = some (.bool false) := ev.got hR.1 11 94 _ rfl rfl d11
                    clear hde ev hd HB
                    go_simp
                    exact hK _ _ ⟨hR.1.step (.inr rfl), hR.2⟩
                  refine Reg.Steps.cons (k' := 14) rfl ?_ ?_
                  · intro D vals a W hR hd hde ev K' hK
                    have HB := hR.2
                    have dg := Reg.dep hde 12 rfl
                    have xg : a.tmps[95]? = some (.bool false) := ev.got hR.1 12 95 _ rfl rfl dg
                    rw [if_neg (Reg.wanted_not rfl (Reg.yielded_of (t := 95) rfl xg) (by decide))]
                    exact hK _ _ ⟨hR.1.step (.inr rfl), HB⟩
                  refine Reg.Steps.cons (k' := 15) rfl ?_ ?_
                  · intro D vals a W hR hd hde ev K' hK
                    have HB := hR.2
                    have dg := Reg.dep hde 12 rfl
                    have xg : a.tmps[95]? = some (.bool false) := ev.got hR.1 12 95 _ rfl rfl dg
                    rw [if_neg (Reg.wanted_not rfl (Reg.yielded_of (t := 95) rfl xg) (by decide))]
                    exact hK _ _ ⟨hR.1.step (.inr rfl), HB⟩
                  refine Reg.Steps.cons (k' := 16) rfl ?_ ?_
                  · intro D vals a W hR hd hde ev K' hK
                    have HB := hR.2
                    have dg := Reg.dep hde 12 rfl
                    have xg : a.tmps[95]? = some (.bool false) := ev.got hR.1 12 95 _ rfl rfl dg
                    rw [if_neg (Reg.wanted_not rfl (Reg.yielded_of (t := 95) rfl xg) (by decide))]
                    exact hK _ _ ⟨hR.1.step (.inr rfl), HB⟩
                  refine Reg.Steps.cons (k' := 17) rfl ?_ ?_
                  · intro D vals a W hR hd hde ev K' hK
                    have HB := hR.2
                    have dg := Reg.dep hde 12 rfl
                    have xg : a.tmps[95]? = some (.bool false) := ev.got hR.1 12 95 _ rfl rfl dg
                    rw [if_neg (Reg.wanted_not rfl (Reg.yielded_of (t := 95) rfl xg) (by decide))]
                    exact hK _ _ ⟨hR.1.step (.inr rfl), HB⟩
                  refine Reg.Steps.cons (k' := 18) rfl ?_ ?_
                  · intro D vals a W hR hd hde ev K' hK
                    have HB := hR.2
                    have dg := Reg.dep hde 12 rfl
                    have xg : a.tmps[95]? = some (.bool false) := ev.got hR.1 12 95 _ rfl rfl dg
                    rw [if_neg (Reg.wanted_not rfl (Reg.yielded_of (t := 95) rfl xg) (by decide))]
                    exact hK _ _ ⟨hR.1.step (.inr rfl), HB⟩
                  refine Reg.Steps.cons (k' := 19) rfl ?_ ?_
                  · intro D vals a W hR hd hde ev K' hK
                    have HB := hR.2
                    have dg := Reg.dep hde 12 rfl
                    have xg : a.tmps[95]? = some (.bool false) := ev.got hR.1 12 95 _ rfl rfl dg
                    rw [if_neg (Reg.wanted_not rfl (Reg.yielded_of (t := 95) rfl xg) (by decide))]
                    exact hK _ _ ⟨hR.1.step (.inr rfl), HB⟩
                  refine Reg.Steps.cons (k' := 20) rfl ?_ ?_
                  · intro D vals a W hR hd hde ev K' hK
                    have HB := hR.2
                    have dg := Reg.dep hde 12 rfl
                    have xg : a.tmps[95]? = some (.bool false) := ev.got hR.1 12 95 _ rfl rfl dg
                    rw [if_neg (Reg.wanted_not rfl (Reg.yielded_of (t := 95) rfl xg) (by decide))]
                    exact hK _ _ ⟨hR.1.step (.inr rfl), HB⟩
                  refine Reg.Steps.cons (k' := 21) rfl ?_ ?_
                  · intro D vals a W hR hd hde ev K' hK
                    have HB := hR.2
                    have dg := Reg.dep hde 12 rfl
                    have xg : a.tmps[95]? = some (.bool false) := ev.got hR.1 12 95 _ rfl rfl dg
                    rw [if_neg (Reg.wanted_not rfl (Reg.yielded_of (t := 95) rfl xg) (by decide))]
                    exact hK _ _ ⟨hR.1.step (.inr rfl), HB⟩
                  refine Reg.Steps.cons (k' := 22) rfl ?_ ?_
                  · intro D vals a W hR hd hde ev K' hK
                    have HB := hR.2
                    have dg := Reg.dep hde 12 rfl
                    have xg : a.tmps[95]? = some (.bool false) := ev.got hR.1 12 95 _ rfl rfl dg
                    rw [if_neg (Reg.wanted_not rfl (Reg.yielded_of (t := 95) rfl xg) (by decide))]
                    exact hK _ _ ⟨hR.1.step (.inr rfl), HB⟩
                  refine Reg.Steps.cons (k' := 23) rfl ?_ ?_
                  · intro D vals a W hR hd hde ev K' hK
                    have HB := hR.2
                    have dg := Reg.dep hde 12 rfl
                    have xg : a.tmps[95]? = some (.bool false) := ev.got hR.1 12 95 _ rfl rfl dg
                    rw [if_neg (Reg.wanted_not rfl (Reg.yielded_of (t := 95) rfl xg) (by decide))]
                    exact hK _ _ ⟨hR.1.step (.inr rfl), HB⟩
                  refine Reg.Steps.cons (k' := 24) rfl ?_ ?_
                  · intro D vals a W hR hd hde ev K' hK
                    have HB := hR.2
                    have dg := Reg.dep hde 12 rfl
                    have xg : a.tmps[95]? = some (.bool false) := ev.got hR.1 12 95 _ rfl rfl dg
                    rw [if_neg (Reg.wanted_not rfl (Reg.yielded_of (t := 95) rfl xg) (by decide))]
                    exact hK _ _ ⟨hR.1.step (.inr rfl), HB⟩
                  refine Reg.Steps.cons (k' := 25) rfl ?_ ?_
                  · intro D vals a W hR hd hde ev K' hK
                    have HB := hR.2
                    have dg := Reg.dep hde 12 rfl
                    have xg : a.tmps[95]? = some (.bool false) := ev.got hR.1 12 95 _ rfl rfl dg
                    rw [if_neg (Reg.wanted_not rfl (Reg.yielded_of (t := 95) rfl xg) (by decide))]
                    exact hK _ _ ⟨hR.1.step (.inr rfl), HB⟩
                  refine Reg.Steps.cons (k' := 26) rfl ?_ ?_
                  · intro D vals a W hR hd hde ev K' hK
                    have HB := hR.2
                    have dg := Reg.dep hde 12 rfl
                    have xg : a.tmps[95]? = some (.bool false) := ev.got hR.1 12 95 _ rfl rfl dg
                    rw [if_neg (Reg.wanted_not rfl (Reg.yielded_of (t := 95) rfl xg) (by decide))]
                    exact hK _ _ ⟨hR.1.step (.inr rfl), HB⟩
                  refine Reg.Steps.cons (k' := 27) rfl ?_ ?_
                  · intro D vals a W hR hd hde ev K' hK
                    have HB := hR.2
                    have d12 := Reg.dep hde 12 rfl
                    have x95 : a.tmps[95]? = some (.bool false) := ev.got hR.1 12 95 _ rfl rfl d12
                    have d25 := Reg.dep hde 25 rfl
                    have x108 : a.tmps[108]? = some (undef) := ev.got hR.1 25 108 _ rfl rfl d25
                    clear hde ev hd HB
                    go_simp
                    exact hK _ _ ⟨hR.1.step (.inr rfl), hR.2⟩
                  exact Reg.Steps.nil
                · intro D vals W2 hD hR
                  have hB2 := hR.2
                  have ev26 := hR.1 26 _ rfl (hD 26 (by decide))
                  clear hR hD
                  simp only [Reg.fin, Act.put, List.setIfInBounds_toArray, List.set_cons_zero, List.set_cons_succ, ev26]
                  clear ev26
                  generalize vals 0 = z0; generalize vals 1 = z1; generalize vals 2 = z2; generalize vals 3 = z3; generalize vals 4 = z4; generalize vals 5 = z5; generalize vals 6 = z6; generalize vals 7 = z7; generalize vals 8 = z8; generalize vals 9 = z9; generalize vals 10 = z10; generalize vals 11 = z11; generalize vals 12 = z12; generalize vals 13 = z13; generalize vals 14 = z14; generalize vals 15 = z15; generalize vals 16 = z16; generalize vals 17 = z17; generalize vals 18 = z18; generalize vals 19 = z19; generalize vals 20 = z20; generalize vals 21 = z21; generalize vals 22 = z22; generalize vals 23 = z23; generalize vals 24 = z24; generalize vals 25 = z25
                  clear vals
                  go_wp2_with fail
                  obtain ⟨W6, hW6⟩ : ∃ W6, W6 = W2 := ⟨_, rfl⟩
                  rw [← hW6] at hB2 ⊢
                  clear hW6 W2
                  have HB46 := Lib.hid (HB45.out.trans (hB2.mono HB45.out.size))
                  have HB26 := Lib.hid (HB24.out.trans (hB2.mono HB24.out.size))
                  have HKS6 := Lib.hid (HKS.out.below hB2 HKS.out.lt)
                  have HKT6 := Lib.hid (HKT.out.below hB2 HKT.out.lt)
                  clear hB2
                  refine Reg.wp_region_inv_lit (by kernel_rfl) (by kernel_rfl) (fun D vals W => Reg.Fx (fun k9 => ([some (.pointer (some ⟨PB, 0, none⟩)), some (.pointer (some ⟨PB, 0, none⟩)), some (.pointer (some ⟨PB, 0, none⟩)), some (.pointer (some ⟨P, 0, none⟩)), some (.agg #[.int .u64 (ow : Int), .int .u64 (xm : Int), .int .u64 (xx : Int), .slice RA rn rc]), some (.agg #[.int .u64 0, .int .u64 (ta : Int), .int .u64 (tb : Int), .int .i64 0, .int .i64 0, .slice none 0 0]), some (.bool vv)] : List (Option Value)).getD k9 none) D vals ∧ Below W6.heap.size W6 W) ⟨Reg.Fx.init _ _, ⟨rfl, rfl, rfl, Nat.le_refl _, fun _ _ => rfl⟩⟩ (fun Q' => ?_) ?_
                  · refine Reg.Steps.cons (k' := 1) rfl ?_ ?_
                    · intro D vals a W hR hd hde ev K' hK
                      have HB := hR.2
                      have x5 : a.tmps[5]? = some (.pointer (some ⟨PB, 0, none⟩)) := (ev.out 5 (by kernel_rfl)).trans rfl
                      clear hde ev hd HB
                      go_simp
                      exact hK _ _ ⟨hR.1.step (.inr rfl), hR.2⟩
                    refine Reg.Steps.cons (k' := 2) rfl ?_ ?_
                    · intro D vals a W hR hd hde ev K' hK
                      have HB := hR.2
                      have d0 := Reg.dep hde 0 rfl
                      have x110 : a.tmps[110]? = some (.pointer (some ⟨PB, 0, none⟩)) := ev.got hR.1 0 110 _ rfl rfl d0
                      clear hde ev hd HB
                      go_simp
                      exact hK _ _ ⟨hR.1.step (.inr rfl), hR.2⟩
                    refine Reg.Steps.cons (k' := 3) rfl ?_ ?_
                    · intro D vals a W hR hd hde ev K' hK
                      have HB := hR.2
                      have d1 := Reg.dep hde 1 rfl
                      have x111 : a.tmps[111]? = some (.pointer (some ⟨PB, 0, none⟩)) := ev.got hR.1 1 111 _ rfl rfl d1
                      clear hde ev hd HB
                      go_simp
                      exact hK _ _ ⟨hR.1.step (.inr rfl), hR.2⟩
                    refine Reg.Steps.cons (k' := 4) rfl ?_ ?_
                    · intro D vals a W hR hd hde ev K' hK
                      have HB := hR.2
                      have d2 := Reg.dep hde 2 rfl
                      have x112 : a.tmps[112]? = some (.pointer (some ⟨PB, 0, none⟩)) := ev.got hR.1 2 112 _ rfl rfl d2
                      have q := (HPSW.out W (HB26.out.trans (HB.mono HB26.out.size))).pb.cell 0
                      clear hde ev hd HB
                      go_simp
                      exact hK _ _ ⟨hR.1.step (.inr rfl), hR.2⟩
                    refine Reg.Steps.cons (k' := 5) rfl ?_ ?_
                    · intro D vals a W hR hd hde ev K' hK
                      have HB := hR.2
                      have x14 : a.tmps[14]? = some (.pointer (some ⟨gS, 0, none⟩)) := (ev.out 14 (by kernel_rfl)).trans rfl
                      have ks := HKS6.out.below HB HKS6.out.lt
                      have q0 := ks.cell 0
                      have q1 := ks.cell 1
                      have q2 := ks.cell 2
                      have q3 := ks.cell 3
                      clear ks
                      clear hde ev hd HB
                      go_simp
                      exact hK _ _ ⟨hR.1.step (.inr rfl), hR.2⟩
                    refine Reg.Steps.cons (k' := 6) rfl ?_ ?_
                    · intro D vals a W hR hd hde ev K' hK
                      have HB := hR.2
                      have x17 : a.tmps[17]? = some (.pointer (some ⟨gT, 0, none⟩)) := (ev.out 17 (by kernel_rfl)).trans rfl
                      have kt := HKT6.out.below HB HKT6.out.lt
                      have q0 := kt.cell 0
                      have q1 := kt.cell 1
                      have q2 := kt.cell 2
                      have q3 := kt.cell 3
                      have q4 := kt.cell 4
                      have q5 := kt.cell 5
                      clear kt
                      clear hde ev hd HB
                      go_simp
                      exact hK _ _ ⟨hR.1.step (.inr rfl), hR.2⟩
                    refine Reg.Steps.cons (k' := 7) rfl ?_ ?_
                    · intro D vals a W hR hd hde ev K' hK
                      have HB := hR.2
                      have d3 := Reg.dep hde 3 rfl
                      have x113 : a.tmps[113]? = some (.pointer (some ⟨P, 0, none⟩)) := ev.got hR.1 3 113 _ rfl rfl d3
                      have d4 := Reg.dep hde 4 rfl
                      have x114 : a.tmps[114]? = some (.agg #[.int .u64 (ow : Int), .int .u64 (xm : Int), .int .u64 (xx : Int), .slice RA rn rc]) := ev.got hR.1 4 114 _ rfl rfl d4
                      have d5 := Reg.dep hde 5 rfl
                      have x115 : a.tmps[115]? = some (.agg #[.int .u64 0, .int .u64 (ta : Int), .int .u64 (tb : Int), .int .i64 0, .int .i64 0, .slice none 0 0]) := ev.got hR.1 5 115 _ rfl rfl d5
                      have CC := Lib.hid (by have h := HVIS.out W (HB26.out.trans (HB.mono HB26.out.size)) ta tb HTAB.out.1 HTAB.out.2; rewrite [HVV.out] at h; exact h)
                      have HR1 := Lib.hid hR
                      clear hde ev hd HB hR
                      go_simp
                      refine CC.out.mono ?_
                      rintro e W1 ⟨rfl, hb⟩
                      exact hK _ _ ⟨HR1.out.1.step (.inr rfl), HR1.out.2.trans (hb.mono HR1.out.2.size)⟩
                    exact Reg.Steps.nil
                  · intro D vals W2 hD hR
                    have hB2 := hR.2
                    have ev6 := hR.1 6 _ rfl (hD 6 (by decide))
                    clear hR hD
                    simp only [Reg.fin, Act.put, List.setIfInBounds_toArray, List.set_cons_zero, List.set_cons_succ, ev6]
                    clear ev6
                    generalize vals 0 = z0; generalize vals 1 = z1; generalize vals 2 = z2; generalize vals 3 = z3; generalize vals 4 = z4; generalize vals 5 = z5
                    clear vals
                    have HB4F := Lib.hid (HB46.out.trans (hB2.mono HB46.out.size))
                    clear hB2
                    have HVB := Lib.hid HVV
                    cases vv
                    · go_wp2_with fail
                      go_roundw
                      case rel => exact ⟨k + 1, by omega, by go_num, z, rfl, (by have h := HG.out; rw [HVB.out] at h; simpa using h), HB4F.out⟩
                      case measure => simp [intOf]; omega
                    · go_wp2_with fail
                      go_roundw
                      case rel => exact ⟨k + 1, by omega, by go_num, z + 1, by go_num, (by have h := HG.out; rw [HVB.out] at h; simpa using h), HB4F.out⟩
                      case measure => simp [intOf]; omega
              · have HSA := Lib.hid hsa
                have hk0' : (0 : Int) < k := by omega
                have HG : Hid (Good bS tl (k + 1) (if (bS ta && (tb == 0 || !bS tb)) = true then z + 1 else z)) := Lib.hid (Good.calm HC.out HGOOD.out HTK.out (fun h => by rw [hsa] at h; cases h))
                clear hsa
                refine Reg.wp_region_inv_lit (by kernel_rfl) (by kernel_rfl) (fun D vals W => Reg.Fx (fun k9 => ([some (.int .i64 (k : Int)), some (.bool true), some (.bool true), some (.pointer (some ⟨PB, 0, none⟩)), some (.pointer (some ⟨PB, 0, none⟩)), some (.pointer (some ⟨PB, 0, none⟩)), some (.pointer (some ⟨P, 0, none⟩)), some (.agg #[.int .u64 (ow : Int), .int .u64 (xm : Int), .int .u64 (xx : Int), .slice RA rn rc]), some (.pointer (some ⟨gT, 1, none⟩)), some (.int .u64 (ta : Int)), some (.bool false), some (.bool false), some (.bool false), some (undef), some (undef), some (undef), some (undef), some (undef), some (undef), some (undef), some (undef), some (undef), some (undef), some (undef), some (undef), some (undef), some (.bool false)] : List (Option Value)).getD k9 none) D vals ∧ Below W5.heap.size W5 W) ⟨Reg.Fx.init _ _, ⟨rfl, rfl, rfl, Nat.le_refl _, fun _ _ => rfl⟩⟩ (fun Q' => ?_) ?_
                · refine Reg.Steps.cons (k' := 1) rfl ?_ ?_
                  · intro D vals a W hR hd hde ev K' hK
                    have HB := hR.2
                    have x16 : a.tmps[16]? = some (.int .i64 (k : Int)) := (ev.out 16 (by kernel_rfl)).trans rfl
                    clear hde ev hd HB
                    go_simp
                    exact hK _ _ ⟨hR.1.step (.inr rfl), hR.2⟩
                  refine Reg.Steps.cons (k' := 2) rfl ?_ ?_
                  · intro D vals a W hR hd hde ev K' hK
                    have HB := hR.2
                    have d0 := Reg.dep hde 0 rfl
                    have x83 : a.tmps[83]? = some (.int .i64 (k : Int)) := ev.got hR.1 0 83 _ rfl rfl d0
                    clear hde ev hd HB
                    go_simp
                    exact hK _ _ ⟨hR.1.step (.inr rfl), hR.2⟩
                  refine Reg.Steps.cons (k' := 3) rfl ?_ ?_
                  · intro D vals a W hR hd hde ev K' hK
                    have HB := hR.2
                    have d1 := Reg.dep hde 1 rfl
                    have x84 : a.tmps[84]? = some (.bool true) := ev.got hR.1 1 84 _ rfl rfl d1
                    clear hde ev hd HB
                    go_simp
                    exact hK _ _ ⟨hR.1.step (.inr rfl), hR.2⟩
                  refine Reg.Steps.cons (k' := 4) rfl ?_ ?_
                  · intro D vals a W hR hd hde ev K' hK
                    have HB := hR.2
                    have dg := Reg.dep hde 2 rfl
                    have xg : a.tmps[85]? = some (.bool true) := ev.got hR.1 2 85 _ rfl rfl dg
                    rw [if_pos (Reg.wanted_of rfl (Reg.yielded_of (t := 85) rfl xg))]
                    have x5 : a.tmps[5]? = some (.pointer (some ⟨PB, 0, none⟩)) := (ev.out 5 (by kernel_rfl)).trans rfl
                    clear hde ev hd HB
                    go_simp
                    exact hK _ _ ⟨hR.1.step (.inr rfl), hR.2⟩
                  refine Reg.Steps.cons (k' := 5) rfl ?_ ?_
                  · intro D vals a W hR hd hde ev K' hK
                    have HB := hR.2
                    have dg := Reg.dep hde 2 rfl
                    have xg : a.tmps[85]? = some (.bool true) := ev.got hR.1 2 85 _ rfl rfl dg
                    rw [if_pos (Reg.wanted_of rfl (Reg.yielded_of (t := 85) rfl xg))]
                    have d3 := Reg.dep hde 3 rfl
                    have x86 : a.tmps[86]? = some (.pointer (some ⟨PB, 0, none⟩)) := ev.got hR.1 3 86 _ rfl rfl d3
                    clear hde ev hd HB
                    go_simp
                    exact hK _ _ ⟨hR.1.step (.inr rfl), hR.2⟩
                  refine Reg.Steps.cons (k' := 6) rfl ?_ ?_
                  · intro D vals a W hR hd hde ev K' hK
                    have HB := hR.2
                    have dg := Reg.dep hde 2 rfl
                    have xg : a.tmps[85]? = some (.bool true) := ev.got hR.1 2 85 _ rfl rfl dg
                    rw [if_pos (Reg.wanted_of rfl (Reg.yielded_of (t := 85) rfl xg))]
                    have d4 := Reg.dep hde 4 rfl
                    have x87 : a.tmps[87]? = some (.pointer (some ⟨PB, 0, none⟩)) := ev.got hR.1 4 87 _ rfl rfl d4
                    clear hde ev hd HB
                    go_simp
                    exact hK _ _ ⟨hR.1.step (.inr rfl), hR.2⟩
                  refine Reg.Steps.cons (k' := 7) rfl ?_ ?_
                  · intro D vals a W hR hd hde ev K' hK
                    have HB := hR.2
                    have dg := Reg.dep hde 2 rfl
                    have xg : a.tmps[85]? = some (.bool true) := ev.got hR.1 2 85 _ rfl rfl dg
                    rw [if_pos (Reg.wanted_of rfl (Reg.yielded_of (t := 85) rfl xg))]
                    have d5 := Reg.dep hde 5 rfl
                    have x88 : a.tmps[88]? = some (.pointer (some ⟨PB, 0, none⟩)) := ev.got hR.1 5 88 _ rfl rfl d5
                    have q := (HPSW.out W (HB24.out.trans (HB.mono HB24.out.size))).pb.cell 0
                    clear hde ev hd HB
                    go_simp
                    exact hK _ _ ⟨hR.1.step (.inr rfl), hR.2⟩
                  refine Reg.Steps.cons (k' := 8) rfl ?_ ?_
                  · intro D vals a W hR hd hde ev K' hK
                    have HB := hR.2
                    have dg := Reg.dep hde 2 rfl
                    have xg : a.tmps[85]? = some (.bool true) := ev.got hR.1 2 85 _ rfl rfl dg
                    rw [if_pos (Reg.wanted_of rfl (Reg.yielded_of (t := 85) rfl xg))]
                    have x14 : a.tmps[14]? = some (.pointer (some ⟨gS, 0, none⟩)) := (ev.out 14 (by kernel_rfl)).trans rfl
                    have ks := HKS.out.below HB HKS.out.lt
                    have q0 := ks.cell 0
                    have q1 := ks.cell 1
                    have q2 := ks.cell 2
                    have q3 := ks.cell 3
                    clear ks
                    clear hde ev hd HB
                    go_simp
                    exact hK _ _ ⟨hR.1.step (.inr rfl), hR.2⟩
                  refine Reg.Steps.cons (k' := 9) rfl ?_ ?_
                  · intro D vals a W hR hd hde ev K' hK
                    have HB := hR.2
                    have dg := Reg.dep hde 2 rfl
                    have xg : a.tmps[85]? = some (.bool true) := ev.got hR.1 2 85 _ rfl rfl dg
                    rw [if_pos (Reg.wanted_of rfl (Reg.yielded_of (t := 85) rfl xg))]
                    have x17 : a.tmps[17]? = some (.pointer (some ⟨gT, 0, none⟩)) := (ev.out 17 (by kernel_rfl)).trans rfl
                    clear hde ev hd HB
                    go_simp
                    exact hK _ _ ⟨hR.1.step (.inr rfl), hR.2⟩
                  refine Reg.Steps.cons (k' := 10) rfl ?_ ?_
                  · intro D vals a W hR hd hde ev K' hK
                    have HB := hR.2
                    have dg := Reg.dep hde 2 rfl
                    have xg : a.tmps[85]? = some (.bool true) := ev.got hR.1 2 85 _ rfl rfl dg
                    rw [if_pos (Reg.wanted_of rfl (Reg.yielded_of (t := 85) rfl xg))]
                    have d8 := Reg.dep hde 8 rfl
                    have x91 : a.tmps[91]? = some (.pointer (some ⟨gT, 1, none⟩)) := ev.got hR.1 8 91 _ rfl rfl d8
                    have q := (HKT.out.below HB HKT.out.lt).cell 1
                    clear hde ev hd HB
                    go_simp
                    exact hK _ _ ⟨hR.1.step (.inr rfl), hR.2⟩
                  refine Reg.Steps.cons (k' := 11) rfl ?_ ?_
                  · intro D vals a W hR hd hde ev K' hK
                    have HB := hR.2
                    have dg := Reg.dep hde 2 rfl
                    have xg : a.tmps[85]? = some (.bool true) := ev.got hR.1 2 85 _ rfl rfl dg
                    rw [if_pos (Reg.wanted_of rfl (Reg.yielded_of (t := 85) rfl xg))]
                    have d6 := Reg.dep hde 6 rfl
                    have x89 : a.tmps[89]? = some (.pointer (some ⟨P, 0, none⟩)) := ev.got hR.1 6 89 _ rfl rfl d6
                    have d7 := Reg.dep hde 7 rfl
                    have x90 : a.tmps[90]? = some (.agg #[.int .u64 (ow : Int), .int .u64 (xm : Int), .int .u64 (xx : Int), .slice RA rn rc]) := ev.got hR.1 7 90 _ rfl rfl d7
                    have d9 := Reg.dep hde 9 rfl
                    have x92 : a.tmps[92]? = some (.int .u64 (ta : Int)) := ev.got hR.1 9 92 _ rfl rfl d9
                    have CC := Lib.hid (by have h := HSEES.out W (HB24.out.trans (HB.mono HB24.out.size)) ta HTAB.out.1; rewrite [HSA.out] at h; exact h)
                    have HR1 := Lib.hid hR
                    clear hde ev hd HB hR
                    go_simp
                    refine CC.out.mono ?_
                    rintro e W1 ⟨rfl, hb⟩
                    exact hK _ _ ⟨HR1.out.1.step (.inr rfl), HR1.out.2.trans (hb.mono HR1.out.2.size)⟩
                  refine Reg.Steps.cons (k' := 12) rfl ?_ ?_
                  · intro D vals a W hR hd hde ev K' hK
                    have HB := hR.2
                    have d2 := Reg.dep hde 2 rfl
                    have x85 : a.tmps[85]? = some (.bool true) := ev.got hR.1 2 85 _ rfl rfl d2
                    have d10 := Reg.dep hde 10 rfl
                    have x93 : a.tmps[93]? = some (.bool false) := ev.got hR.1 10 93 _ rfl rfl d10
                    clear hde ev hd HB
                    go_simp
                    exact hK _ _ ⟨hR.1.step (.inr rfl), hR.2⟩
                  refine Reg.Steps.cons (k' := 13) rfl ?_ ?_
                  · intro D vals a W hR hd hde ev K' hK
                    have HB := hR.2
                    have d11 := Reg.dep hde 11 rfl
                    have x94 : a.tmps[94]? = some (.bool false) := ev.got hR.1 11 94 _ rfl rfl d11
                    clear hde ev hd HB
                    go_simp
                    exact hK _ _ ⟨hR.1.step (.inr rfl), hR.2⟩
                  refine Reg.Steps.cons (k' := 14) rfl ?_ ?_
                  · intro D vals a W hR hd hde ev K' hK
                    have HB := hR.2
                    have dg := Reg.dep hde 12 rfl
                    have xg : a.tmps[95]? = some (.bool false) := ev.got hR.1 12 95 _ rfl rfl dg
                    rw [if_neg (Reg.wanted_not rfl (Reg.yielded_of (t := 95) rfl xg) (by decide))]
                    exact hK _ _ ⟨hR.1.step (.inr rfl), HB⟩
                  refine Reg.Steps.cons (k' := 15) rfl ?_ ?_
                  · intro D vals a W hR hd hde ev K' hK
                    have HB := hR.2
                    have dg := Reg.dep hde 12 rfl
                    have xg : a.tmps[95]? = some (.bool false) := ev.got hR.1 12 95 _ rfl rfl dg
                    rw [if_neg (Reg.wanted_not rfl (Reg.yielded_of (t := 95) rfl xg) (by decide))]
                    exact hK _ _ ⟨hR.1.step (.inr rfl), HB⟩
                  refine Reg.Steps.cons (k' := 16) rfl ?_ ?_
                  · intro D vals a W hR hd hde ev K' hK
                    have HB := hR.2
                    have dg := Reg.dep hde 12 rfl
                    have xg : a.tmps[95]? = some (.bool false) := ev.got hR.1 12 95 _ rfl rfl dg
                    rw [if_neg (Reg.wanted_not rfl (Reg.yielded_of (t := 95) rfl xg) (by decide))]
                    exact hK _ _ ⟨hR.1.step (.inr rfl), HB⟩
                  refine Reg.Steps.cons (k' := 17) rfl ?_ ?_
                  · intro D vals a W hR hd hde ev K' hK
                    have HB := hR.2
                    have dg := Reg.dep hde 12 rfl
                    have xg : a.tmps[95]? = some (.bool false) := ev.got hR.1 12 95 _ rfl rfl dg
                    rw [if_neg (Reg.wanted_not rfl (Reg.yielded_of (t := 95) rfl xg) (by decide))]
                    exact hK _ _ ⟨hR.1.step (.inr rfl), HB⟩
                  refine Reg.Steps.cons (k' := 18) rfl ?_ ?_
                  · intro D vals a W hR hd hde ev K' hK
                    have HB := hR.2
                    have dg := Reg.dep hde 12 rfl
                    have xg : a.tmps[95]? = some (.bool false) := ev.got hR.1 12 95 _ rfl rfl dg
                    rw [if_neg (Reg.wanted_not rfl (Reg.yielded_of (t := 95) rfl xg) (by decide))]
                    exact hK _ _ ⟨hR.1.step (.inr rfl), HB⟩
                  refine Reg.Steps.cons (k' := 19) rfl ?_ ?_
                  · intro D vals a W hR hd hde ev K' hK
                    have HB := hR.2
                    have dg := Reg.dep hde 12 rfl
                    have xg : a.tmps[95]? = some (.bool false) := ev.got hR.1 12 95 _ rfl rfl dg
                    rw [if_neg (Reg.wanted_not rfl (Reg.yielded_of (t := 95) rfl xg) (by decide))]
                    exact hK _ _ ⟨hR.1.step (.inr rfl), HB⟩
                  refine Reg.Steps.cons (k' := 20) rfl ?_ ?_
                  · intro D vals a W hR hd hde ev K' hK
                    have HB := hR.2
                    have dg := Reg.dep hde 12 rfl
                    have xg : a.tmps[95]? = some (.bool false) := ev.got hR.1 12 95 _ rfl rfl dg
                    rw [if_neg (Reg.wanted_not rfl (Reg.yielded_of (t := 95) rfl xg) (by decide))]
                    exact hK _ _ ⟨hR.1.step (.inr rfl), HB⟩
                  refine Reg.Steps.cons (k' := 21) rfl ?_ ?_
                  · intro D vals a W hR hd hde ev K' hK
                    have HB := hR.2
                    have dg := Reg.dep hde 12 rfl
                    have xg : a.tmps[95]? = some (.bool false) := ev.got hR.1 12 95 _ rfl rfl dg
                    rw [if_neg (Reg.wanted_not rfl (Reg.yielded_of (t := 95) rfl xg) (by decide))]
                    exact hK _ _ ⟨hR.1.step (.inr rfl), HB⟩
                  refine Reg.Steps.cons (k' := 22) rfl ?_ ?_
                  · intro D vals a W hR hd hde ev K' hK
                    have HB := hR.2
                    have dg := Reg.dep hde 12 rfl
                    have xg : a.tmps[95]? = some (.bool false) := ev.got hR.1 12 95 _ rfl rfl dg
                    rw [if_neg (Reg.wanted_not rfl (Reg.yielded_of (t := 95) rfl xg) (by decide))]
                    exact hK _ _ ⟨hR.1.step (.inr rfl), HB⟩
                  refine Reg.Steps.cons (k' := 23) rfl ?_ ?_
                  · intro D vals a W hR hd hde ev K' hK
                    have HB := hR.2
                    have dg := Reg.dep hde 12 rfl
                    have xg : a.tmps[95]? = some (.bool false) := ev.got hR.1 12 95 _ rfl rfl dg
                    rw [if_neg (Reg.wanted_not rfl (Reg.yielded_of (t := 95) rfl xg) (by decide))]
                    exact hK _ _ ⟨hR.1.step (.inr rfl), HB⟩
                  refine Reg.Steps.cons (k' := 24) rfl ?_ ?_
                  · intro D vals a W hR hd hde ev K' hK
                    have HB := hR.2
                    have dg := Reg.dep hde 12 rfl
                    have xg : a.tmps[95]? = some (.bool false) := ev.got hR.1 12 95 _ rfl rfl dg
                    rw [if_neg (Reg.wanted_not rfl (Reg.yielded_of (t := 95) rfl xg) (by decide))]
                    exact hK _ _ ⟨hR.1.step (.inr rfl), HB⟩
                  refine Reg.Steps.cons (k' := 25) rfl ?_ ?_
                  · intro D vals a W hR hd hde ev K' hK
                    have HB := hR.2
                    have dg := Reg.dep hde 12 rfl
                    have xg : a.tmps[95]? = some (.bool false) := ev.got hR.1 12 95 _ rfl rfl dg
                    rw [if_neg (Reg.wanted_not rfl (Reg.yielded_of (t := 95) rfl xg) (by decide))]
                    exact hK _ _ ⟨hR.1.step (.inr rfl), HB⟩
                  refine Reg.Steps.cons (k' := 26) rfl ?_ ?_
                  · intro D vals a W hR hd hde ev K' hK
                    have HB := hR.2
                    have dg := Reg.dep hde 12 rfl
                    have xg : a.tmps[95]? = some (.bool false) := ev.got hR.1 12 95 _ rfl rfl dg
                    rw [if_neg (Reg.wanted_not rfl (Reg.yielded_of (t := 95) rfl xg) (by decide))]
                    exact hK _ _ ⟨hR.1.step (.inr rfl), HB⟩
                  refine Reg.Steps.cons (k' := 27) rfl ?_ ?_
                  · intro D vals a W hR hd hde ev K' hK
                    have HB := hR.2
                    have d12 := Reg.dep hde 12 rfl
                    have x95 : a.tmps[95]? = some (.bool false) := ev.got hR.1 12 95 _ rfl rfl d12
                    have d25 := Reg.dep hde 25 rfl
                    have x108 : a.tmps[108]? = some (undef) := ev.got hR.1 25 108 _ rfl rfl d25
                    clear hde ev hd HB
                    go_simp
                    exact hK _ _ ⟨hR.1.step (.inr rfl), hR.2⟩
                  exact Reg.Steps.nil
                · intro D vals W2 hD hR
                  have hB2 := hR.2
                  have ev26 := hR.1 26 _ rfl (hD 26 (by decide))
                  clear hR hD
                  simp only [Reg.fin, Act.put, List.setIfInBounds_toArray, List.set_cons_zero, List.set_cons_succ, ev26]
                  clear ev26
                  generalize vals 0 = z0; generalize vals 1 = z1; generalize vals 2 = z2; generalize vals 3 = z3; generalize vals 4 = z4; generalize vals 5 = z5; generalize vals 6 = z6; generalize vals 7 = z7; generalize vals 8 = z8; generalize vals 9 = z9; generalize vals 10 = z10; generalize vals 11 = z11; generalize vals 12 = z12; generalize vals 13 = z13; generalize vals 14 = z14; generalize vals 15 = z15; generalize vals 16 = z16; generalize vals 17 = z17; generalize vals 18 = z18; generalize vals 19 = z19; generalize vals 20 = z20; generalize vals 21 = z21; generalize vals 22 = z22; generalize vals 23 = z23; generalize vals 24 = z24; generalize vals 25 = z25
                  clear vals
                  go_wp2_with fail
                  obtain ⟨W6, hW6⟩ : ∃ W6, W6 = W2 := ⟨_, rfl⟩
                  rw [← hW6] at hB2 ⊢
                  clear hW6 W2
                  have HB46 := Lib.hid (HB45.out.trans (hB2.mono HB45.out.size))
                  have HB26 := Lib.hid (HB24.out.trans (hB2.mono HB24.out.size))
                  have HKS6 := Lib.hid (HKS.out.below hB2 HKS.out.lt)
                  have HKT6 := Lib.hid (HKT.out.below hB2 HKT.out.lt)
                  clear hB2
                  refine Reg.wp_region_inv_lit (by kernel_rfl) (by kernel_rfl) (fun D vals W => Reg.Fx (fun k9 => ([some (.pointer (some ⟨PB, 0, none⟩)), some (.pointer (some ⟨PB, 0, none⟩)), some (.pointer (some ⟨PB, 0, none⟩)), some (.pointer (some ⟨P, 0, none⟩)), some (.agg #[.int .u64 (ow : Int), .int .u64 (xm : Int), .int .u64 (xx : Int), .slice RA rn rc]), some (.agg #[.int .u64 0, .int .u64 (ta : Int), .int .u64 (tb : Int), .int .i64 0, .int .i64 0, .slice none 0 0]), some (.bool vv)] : List (Option Value)).getD k9 none) D vals ∧ Below W6.heap.size W6 W) ⟨Reg.Fx.init _ _, ⟨rfl, rfl, rfl, Nat.le_refl _, fun _ _ => rfl⟩⟩ (fun Q' => ?_) ?_
                  · refine Reg.Steps.cons (k' := 1) rfl ?_ ?_
                    · intro D vals a W hR hd hde ev K' hK
                      have HB := hR.2
                      have x5 : a.tmps[5]? = some (.pointer (some ⟨PB, 0, none⟩)) := (ev.out 5 (by kernel_rfl)).trans rfl
                      clear hde ev hd HB
                      go_simp
                      exact hK _ _ ⟨hR.1.step (.inr rfl), hR.2⟩
                    refine Reg.Steps.cons (k' := 2) rfl ?_ ?_
                    · intro D vals a W hR hd hde ev K' hK
                      have HB := hR.2
                      have d0 := Reg.dep hde 0 rfl
                      have x110 : a.tmps[110]? = some (.pointer (some ⟨PB, 0, none⟩)) := ev.got hR.1 0 110 _ rfl rfl d0
                      clear hde ev hd HB
                      go_simp
                      exact hK _ _ ⟨hR.1.step (.inr rfl), hR.2⟩
                    refine Reg.Steps.cons (k' := 3) rfl ?_ ?_
                    · intro D vals a W hR hd hde ev K' hK
                      have HB := hR.2
                      have d1 := Reg.dep hde 1 rfl
                      have x111 : a.tmps[111]? = some (.pointer (some ⟨PB, 0, none⟩)) := ev.got hR.1 1 111 _ rfl rfl d1
                      clear hde ev hd HB
                      go_simp
                      exact hK _ _ ⟨hR.1.step (.inr rfl), hR.2⟩
                    refine Reg.Steps.cons (k' := 4) rfl ?_ ?_
                    · intro D vals a W hR hd hde ev K' hK
                      have HB := hR.2
                      have d2 := Reg.dep hde 2 rfl
                      have x112 : a.tmps[112]? = some (.pointer (some ⟨PB, 0, none⟩)) := ev.got hR.1 2 112 _ rfl rfl d2
                      have q := (HPSW.out W (HB26.out.trans (HB.mono HB26.out.size))).pb.cell 0
                      clear hde ev hd HB
                      go_simp
                      exact hK _ _ ⟨hR.1.step (.inr rfl), hR.2⟩
                    refine Reg.Steps.cons (k' := 5) rfl ?_ ?_
                    · intro D vals a W hR hd hde ev K' hK
                      have HB := hR.2
                      have x14 : a.tmps[14]? = some (.pointer (some ⟨gS, 0, none⟩)) := (ev.out 14 (by kernel_rfl)).trans rfl
                      have ks := HKS6.out.below HB HKS6.out.lt
                      have q0 := ks.cell 0
                      have q1 := ks.cell 1
                      have q2 := ks.cell 2
                      have q3 := ks.cell 3
                      clear ks
                      clear hde ev hd HB
                      go_simp
                      exact hK _ _ ⟨hR.1.step (.inr rfl), hR.2⟩
                    refine Reg.Steps.cons (k' := 6) rfl ?_ ?_
                    · intro D vals a W hR hd hde ev K' hK
                      have HB := hR.2
                      have x17 : a.tmps[17]? = some (.pointer (some ⟨gT, 0, none⟩)) := (ev.out 17 (by kernel_rfl)).trans rfl
                      have kt := HKT6.out.below HB HKT6.out.lt
                      have q0 := kt.cell 0
                      have q1 := kt.cell 1
                      have q2 := kt.cell 2
                      have q3 := kt.cell 3
                      have q4 := kt.cell 4
                      have q5 := kt.cell 5
                      clear kt
                      clear hde ev hd HB
                      go_simp
                      exact hK _ _ ⟨hR.1.step (.inr rfl), hR.2⟩
                    refine Reg.Steps.cons (k' := 7) rfl ?_ ?_
                    · intro D vals a W hR hd hde ev K' hK
                      have HB := hR.2
                      have d3 := Reg.dep hde 3 rfl
                      have x113 : a.tmps[113]? = some (.pointer (some ⟨P, 0, none⟩)) := ev.got hR.1 3 113 _ rfl rfl d3
                      have d4 := Reg.dep hde 4 rfl
                      have x114 : a.tmps[114]? = some (.agg #[.int .u64 (ow : Int), .int .u64 (xm : Int), .int .u64 (xx : Int), .slice RA rn rc]) := ev.got hR.1 4 114 _ rfl rfl d4
                      have d5 := Reg.dep hde 5 rfl
                      have x115 : a.tmps[115]? = some (.agg #[.int .u64 0, .int .u64 (ta : Int), .int .u64 (tb : Int), .int .i64 0, .int .i64 0, .slice none 0 0]) := ev.got hR.1 5 115 _ rfl rfl d5
                      have CC := Lib.hid (by have h := HVIS.out W (HB26.out.trans (HB.mono HB26.out.size)) ta tb HTAB.out.1 HTAB.out.2; rewrite [HVV.out] at h; exact h)
                      have HR1 := Lib.hid hR
                      clear hde ev hd HB hR
                      go_simp
                      refine CC.out.mono ?_
                      rintro e W1 ⟨rfl, hb⟩
                      exact hK _ _ ⟨HR1.out.1.step (.inr rfl), HR1.out.2.trans (hb.mono HR1.out.2.size)⟩
                    exact Reg.Steps.nil
                  · intro D vals W2 hD hR
                    have hB2 := hR.2
                    have ev6 := hR.1 6 _ rfl (hD 6 (by decide))
                    clear hR hD
                    simp only [Reg.fin, Act.put, List.setIfInBounds_toArray, List.set_cons_zero, List.set_cons_succ, ev6]
                    clear ev6
                    generalize vals 0 = z0; generalize vals 1 = z1; generalize vals 2 = z2; generalize vals 3 = z3; generalize vals 4 = z4; generalize vals 5 = z5
                    clear vals
                    have HB4F := Lib.hid (HB46.out.trans (hB2.mono HB46.out.size))
                    clear hB2
                    have HVB := Lib.hid HVV
                    cases vv
                    · go_wp2_with fail
                      go_roundw
                      case rel => exact ⟨k + 1, by omega, by go_num, z, rfl, (by have h := HG.out; rw [HVB.out] at h; simpa using h), HB4F.out⟩
                      case measure => simp [intOf]; omega
                    · go_wp2_with fail
                      go_roundw
                      case rel => exact ⟨k + 1, by omega, by go_num, z + 1, by go_num, (by have h := HG.out; rw [HVB.out] at h; simpa using h), HB4F.out⟩
                      case measure => simp [intOf]; omega
              · have HSA := Lib.hid hsa
                obtain ⟨k', hk'⟩ : ∃ k' : Nat, k = k' + 1 := ⟨k - 1, by omega⟩
                have hsub : (k : Int) - 1 = (k' : Int) := by omega
                have hsub2 : (k' : Int) < m := by omega
                have hwk : IntKind.i64.wrap (k' : Int) = (k' : Int) := by simp [IntKind.wrap, IntKind.bits, IntKind.signed] <;> omega
                have hk0' : (0 : Int) < k := by omega
                obtain ⟨⟨pa, pb⟩, hpk⟩ : ∃ x, tl[k']? = some x := ⟨_, List.getElem?_eq_getElem (by rw [HM.out]; omega)⟩
                have HPC : Hid (∀ W, Below W5.heap.size W5 W → W.cell? ⟨g2, k' * 6 + 1, none⟩ = some (.int .u64 (pa : Int))) := Lib.hid (fun W h => by
                  obtain ⟨ad', e', _, y1, _⟩ := tup_cells HTA.out (HB24.out.trans (h.mono HB24.out.size)) hpk HM.out
                  injection e' with e'
                  subst e'
                  simpa [add_flat] using y1)
                have hpa := HC.out.nz k' pa pb hpk
                have HPA : Hid (pa < 18446744073709551616) := Lib.hid (by omega)
                obtain ⟨pv, hpv⟩ : ∃ pv, bS pa = pv := ⟨_, rfl⟩
                have HSP := Lib.hid hpv
                have HPK : Hid (tl[k - 1]? = some (pa, pb)) := Lib.hid (by rw [hk']; exact hpk)
                clear hsa hpk hpa hpv hk'
                refine Reg.wp_region_inv_lit (by kernel_rfl) (by kernel_rfl) (fun D vals W => Reg.Fx (fun k9 => ([some (.int .i64 (k : Int)), some (.bool true), some (.bool true), some (.pointer (some ⟨PB, 0, none⟩)), some (.pointer (some ⟨PB, 0, none⟩)), some (.pointer (some ⟨PB, 0, none⟩)), some (.pointer (some ⟨P, 0, none⟩)), some (.agg #[.int .u64 (ow : Int), .int .u64 (xm : Int), .int .u64 (xx : Int), .slice RA rn rc]), some (.pointer (some ⟨gT, 1, none⟩)), some (.int .u64 (ta : Int)), some (.bool true), some (.bool true), some (.bool true), some (.pointer (some ⟨PB, 0, none⟩)), some (.pointer (some ⟨PB, 0, none⟩)), some (.pointer (some ⟨PB, 0, none⟩)), some (.pointer (some ⟨P, 0, none⟩)), some (.agg #[.int .u64 (ow : Int), .int .u64 (xm : Int), .int .u64 (xx : Int), .slice RA rn rc]), some (.slice (some ⟨g2, 0, none⟩) m c2), some (.int .i64 (k : Int)), some (.int .i64 (k' : Int)), some (.pointer (some ⟨g2, k' * 6, none⟩)), some (.pointer (some ⟨g2, k' * 6 + 1, none⟩)), some (.int .u64 (pa : Int)), some (.bool pv), some (.bool (!pv)), some (.bool (!pv))] : List (Option Value)).getD k9 none) D vals ∧ Below W5.heap.size W5 W) ⟨Reg.Fx.init _ _, ⟨rfl, rfl, rfl, Nat.le_refl _, fun _ _ => rfl⟩⟩ (fun Q' => ?_) ?_
                · refine Reg.Steps.cons (k' := 1) rfl ?_ ?_
                  · intro D vals a W hR hd hde ev K' hK
                    have HB := hR.2
                    have x16 : a.tmps[16]? = some (.int .i64 (k : Int)) := (ev.out 16 (by kernel_rfl)).trans rfl
                    clear hde ev hd HB
                    go_simp
                    exact hK _ _ ⟨hR.1.step (.inr rfl), hR.2⟩
                  refine Reg.Steps.cons (k' := 2) rfl ?_ ?_
                  · intro D vals a W hR hd hde ev K' hK
                    have HB := hR.2
                    have d0 := Reg.dep hde 0 rfl
                    have x83 : a.tmps[83]? = some (.int .i64 (k : Int)) := ev.got hR.1 0 83 _ rfl rfl d0
                    clear hde ev hd HB
                    go_simp
                    exact hK _ _ ⟨hR.1.step (.inr rfl), hR.2⟩
                  refine Reg.Steps.cons (k' := 3) rfl ?_ ?_
                  · intro D vals a W hR hd hde ev K' hK
                    have HB := hR.2
                    have d1 := Reg.dep hde 1 rfl
                    have x84 : a.tmps[84]? = some (.bool true) := ev.got hR.1 1 84 _ rfl rfl d1
                    clear hde ev hd HB
                    go_simp
                    exact hK _ _ ⟨hR.1.step (.inr rfl), hR.2⟩
                  refine Reg.Steps.cons (k' := 4) rfl ?_ ?_
                  · intro D vals a W hR hd hde ev K' hK
                    have HB := hR.2
                    have dg := Reg.dep hde 2 rfl
                    have xg : a.tmps[85]? = some (.bool true) := ev.got hR.1 2 85 _ rfl rfl dg
                    rw [if_pos (Reg.wanted_of rfl (Reg.yielded_of (t := 85) rfl xg))]
                    have x5 : a.tmps[5]? = some (.pointer (some ⟨PB, 0, none⟩)) := (ev.out 5 (by kernel_rfl)).trans rfl
                    clear hde ev hd HB
                    go_simp
                    exact hK _ _ ⟨hR.1.step (.inr rfl), hR.2⟩
                  refine Reg.Steps.cons (k' := 5) rfl ?_ ?_
                  · intro D vals a W hR hd hde ev K' hK
                    have HB := hR.2
                    have dg := Reg.dep hde 2 rfl
                    have xg : a.tmps[85]? = some (.bool true) := ev.got hR.1 2 85 _ rfl rfl dg
                    rw [if_pos (Reg.wanted_of rfl (Reg.yielded_of (t := 85) rfl xg))]
                    have d3 := Reg.dep hde 3 rfl
                    have x86 : a.tmps[86]? = some (.pointer (some ⟨PB, 0, none⟩)) := ev.got hR.1 3 86 _ rfl rfl d3
                    clear hde ev hd HB
                    go_simp
                    exact hK _ _ ⟨hR.1.step (.inr rfl), hR.2⟩
                  refine Reg.Steps.cons (k' := 6) rfl ?_ ?_
                  · intro D vals a W hR hd hde ev K' hK
                    have HB := hR.2
                    have dg := Reg.dep hde 2 rfl
                    have xg : a.tmps[85]? = some (.bool true) := ev.got hR.1 2 85 _ rfl rfl dg
                    rw [if_pos (Reg.wanted_of rfl (Reg.yielded_of (t := 85) rfl xg))]
                    have d4 := Reg.dep hde 4 rfl
                    have x87 : a.tmps[87]? = some (.pointer (some ⟨PB, 0, none⟩)) := ev.got hR.1 4 87 _ rfl rfl d4
                    clear hde ev hd HB
                    go_simp
                    exact hK _ _ ⟨hR.1.step (.inr rfl), hR.2⟩
                  refine Reg.Steps.cons (k' := 7) rfl ?_ ?_
                  · intro D vals a W hR hd hde ev K' hK
                    have HB := hR.2
                    have dg := Reg.dep hde 2 rfl
                    have xg : a.tmps[85]? = some (.bool true) := ev.got hR.1 2 85 _ rfl rfl dg
                    rw [if_pos (Reg.wanted_of rfl (Reg.yielded_of (t := 85) rfl xg))]
                    have d5 := Reg.dep hde 5 rfl
                    have x88 : a.tmps[88]? = some (.pointer (some ⟨PB, 0, none⟩)) := ev.got hR.1 5 88 _ rfl rfl d5
                    have q := (HPSW.out W (HB24.out.trans (HB.mono HB24.out.size))).pb.cell 0
                    clear hde ev hd HB
                    go_simp
                    exact hK _ _ ⟨hR.1.step (.inr rfl), hR.2⟩
                  refine Reg.Steps.cons (k' := 8) rfl ?_ ?_
                  · intro D vals a W hR hd hde ev K' hK
                    have HB := hR.2
                    have dg := Reg.dep hde 2 rfl
                    have xg : a.tmps[85]? = some (.bool true) := ev.got hR.1 2 85 _ rfl rfl dg
                    rw [if_pos (Reg.wanted_of rfl (Reg.yielded_of (t := 85) rfl xg))]
                    have x14 : a.tmps[14]? = some (.pointer (some ⟨gS, 0, none⟩)) := (ev.out 14 (by kernel_rfl)).trans rfl
                    have ks := HKS.out.below HB HKS.out.lt
                    have q0 := ks.cell 0
                    have q1 := ks.cell 1
                    have q2 := ks.cell 2
                    have q3 := ks.cell 3
                    clear ks
                    clear hde ev hd HB
                    go_simp
                    exact hK _ _ ⟨hR.1.step (.inr rfl), hR.2⟩
                  refine Reg.Steps.cons (k' := 9) rfl ?_ ?_
                  · intro D vals a W hR hd hde ev K' hK
                    have HB := hR.2
                    have dg := Reg.dep hde 2 rfl
                    have xg : a.tmps[85]? = some (.bool true) := ev.got hR.1 2 85 _ rfl rfl dg
                    rw [if_pos (Reg.wanted_of rfl (Reg.yielded_of (t := 85) rfl xg))]
                    have x17 : a.tmps[17]? = some (.pointer (some ⟨gT, 0, none⟩)) := (ev.out 17 (by kernel_rfl)).trans rfl
                    clear hde ev hd HB
                    go_simp
                    exact hK _ _ ⟨hR.1.step (.inr rfl), hR.2⟩
                  refine Reg.Steps.cons (k' := 10) rfl ?_ ?_
                  · intro D vals a W hR hd hde ev K' hK
                    have HB := hR.2
                    have dg := Reg.dep hde 2 rfl
                    have xg : a.tmps[85]? = some (.bool true) := ev.got hR.1 2 85 _ rfl rfl dg
                    rw [if_pos (Reg.wanted_of rfl (Reg.yielded_of (t := 85) rfl xg))]
                    have d8 := Reg.dep hde 8 rfl
                    have x91 : a.tmps[91]? = some (.pointer (some ⟨gT, 1, none⟩)) := ev.got hR.1 8 91 _ rfl rfl d8
                    have q := (HKT.out.below HB HKT.out.lt).cell 1
                    clear hde ev hd HB
                    go_simp
                    exact hK _ _ ⟨hR.1.step (.inr rfl), hR.2⟩
                  refine Reg.Steps.cons (k' := 11) rfl ?_ ?_
                  · intro D vals a W hR hd hde ev K' hK
                    have HB := hR.2
                    have dg := Reg.dep hde 2 rfl
                    have xg : a.tmps[85]? = some (.bool true) := ev.got hR.1 2 85 _ rfl rfl dg
                    rw [if_pos (Reg.wanted_of rfl (Reg.yielded_of (t := 85) rfl xg))]
                    have d6 := Reg.dep hde 6 rfl
                    have x89 : a.tmps[89]? = some (.pointer (some ⟨P, 0, none⟩)) := ev.got hR.1 6 89 _ rfl rfl d6
                    have d7 := Reg.dep hde 7 rfl
                    have x90 : a.tmps[90]? = some (.agg #[.int .u64 (ow : Int), .int .u64 (xm : Int), .int .u64 (xx : Int), .slice RA rn rc]) := ev.got hR.1 7 90 _ rfl rfl d7
                    have d9 := Reg.dep hde 9 rfl
                    have x92 : a.tmps[92]? = some (.int .u64 (ta : Int)) := ev.got hR.1 9 92 _ rfl rfl d9
                    have CC := Lib.hid (by have h := HSEES.out W (HB24.out.trans (HB.mono HB24.out.size)) ta HTAB.out.1; rewrite [HSA.out] at h; exact h)
                    have HR1 := Lib.hid hR
                    clear hde ev hd HB hR
                    go_simp
                    refine CC.out.mono ?_
                    rintro e W1 ⟨rfl, hb⟩
                    exact hK _ _ ⟨HR1.out.1.step (.inr rfl), HR1.out.2.trans (hb.mono HR1.out.2.size)⟩
                  refine Reg.Steps.cons (k' := 12) rfl ?_ ?_
                  · intro D vals a W hR hd hde ev K' hK
                    have HB := hR.2
                    have d2 := Reg.dep hde 2 rfl
                    have x85 : a.tmps[85]? = some (.bool true) := ev.got hR.1 2 85 _ rfl rfl d2
                    have d10 := Reg.dep hde 10 rfl
                    have x93 : a.tmps[93]? = some (.bool true) := ev.got hR.1 10 93 _ rfl rfl d10
                    clear hde ev hd HB
                    go_simp
                    exact hK _ _ ⟨hR.1.step (.inr rfl), hR.2⟩
                  refine Reg.Steps.cons (k' := 13) rfl ?_ ?_
                  · intro D vals a W hR hd hde ev K' hK
                    have HB := hR.2
                    have d11 := Reg.dep hde 11 rfl
                    have x94 : a.tmps[94]? = some (.bool true) := ev.got hR.1 11 94 _ rfl rfl d11
                    clear hde ev hd HB
                    go_simp
                    exact hK _ _ ⟨hR.1.step (.inr rfl), hR.2⟩
                  refine Reg.Steps.cons (k' := 14) rfl ?_ ?_
                  · intro D vals a W hR hd hde ev K' hK
                    have HB := hR.2
                    have dg := Reg.dep hde 12 rfl
                    have xg : a.tmps[95]? = some (.bool true) := ev.got hR.1 12 95 _ rfl rfl dg
                    rw [if_pos (Reg.wanted_of rfl (Reg.yielded_of (t := 95) rfl xg))]
                    have x5 : a.tmps[5]? = some (.pointer (some ⟨PB, 0, none⟩)) := (ev.out 5 (by kernel_rfl)).trans rfl
                    clear hde ev hd HB
                    go_simp
                    exact hK _ _ ⟨hR.1.step (.inr rfl), hR.2⟩
                  refine Reg.Steps.cons (k' := 15) rfl ?_ ?_
                  · intro D vals a W hR hd hde ev K' hK
                    have HB := hR.2
                    have dg := Reg.dep hde 12 rfl
                    have xg : a.tmps[95]? = some (.bool true) := ev.got hR.1 12 95 _ rfl rfl dg
                    rw [if_pos (Reg.wanted_of rfl (Reg.yielded_of (t := 95) rfl xg))]
                    have d13 := Reg.dep hde 13 rfl
                    have x96 : a.tmps[96]? = some (.pointer (some ⟨PB, 0, none⟩)) := ev.got hR.1 13 96 _ rfl rfl d13
                    clear hde ev hd HB
                    go_simp
                    exact hK _ _ ⟨hR.1.step (.inr rfl), hR.2⟩
                  refine Reg.Steps.cons (k' := 16) rfl ?_ ?_
                  · intro D vals a W hR hd hde ev K' hK
                    have HB := hR.2
                    have dg := Reg.dep hde 12 rfl
                    have xg : a.tmps[95]? = some (.bool true) := ev.got hR.1 12 95 _ rfl rfl dg
                    rw [if_pos (Reg.wanted_of rfl (Reg.yielded_of (t := 95) rfl xg))]
                    have d14 := Reg.dep hde 14 rfl
                    have x97 : a.tmps[97]? = some (.pointer (some ⟨PB, 0, none⟩)) := ev.got hR.1 14 97 _ rfl rfl d14
                    clear hde ev hd HB
                    go_simp
                    exact hK _ _ ⟨hR.1.step (.inr rfl), hR.2⟩
                  refine Reg.Steps.cons (k' := 17) rfl ?_ ?_
                  · intro D vals a W hR hd hde ev K' hK
                    have HB := hR.2
                    have dg := Reg.dep hde 12 rfl
                    have xg : a.tmps[95]? = some (.bool true) := ev.got hR.1 12 95 _ rfl rfl dg
                    rw [if_pos (Reg.wanted_of rfl (Reg.yielded_of (t := 95) rfl xg))]
                    have d15 := Reg.dep hde 15 rfl
                    have x98 : a.tmps[98]? = some (.pointer (some ⟨PB, 0, none⟩)) := ev.got hR.1 15 98 _ rfl rfl d15
                    have q := (HPSW.out W (HB24.out.trans (HB.mono HB24.out.size))).pb.cell 0
                    clear hde ev hd HB
                    go_simp
                    exact hK _ _ ⟨hR.1.step (.inr rfl), hR.2⟩
                  refine Reg.Steps.cons (k' := 18) rfl ?_ ?_
                  · intro D vals a W hR hd hde ev K' hK
                    have HB := hR.2
                    have dg := Reg.dep hde 12 rfl
                    have xg : a.tmps[95]? = some (.bool true) := ev.got hR.1 12 95 _ rfl rfl dg
                    rw [if_pos (Reg.wanted_of rfl (Reg.yielded_of (t := 95) rfl xg))]
                    have x14 : a.tmps[14]? = some (.pointer (some ⟨gS, 0, none⟩)) := (ev.out 14 (by kernel_rfl)).trans rfl
                    have ks := HKS.out.below HB HKS.out.lt
                    have q0 := ks.cell 0
                    have q1 := ks.cell 1
                    have q2 := ks.cell 2
                    have q3 := ks.cell 3
                    clear ks
                    clear hde ev hd HB
                    go_simp
                    exact hK _ _ ⟨hR.1.step (.inr rfl), hR.2⟩
                  refine Reg.Steps.cons (k' := 19) rfl ?_ ?_
                  · intro D vals a W hR hd hde ev K' hK
                    have HB := hR.2
                    have dg := Reg.dep hde 12 rfl
                    have xg : a.tmps[95]? = some (.bool true) := ev.got hR.1 12 95 _ rfl rfl dg
                    rw [if_pos (Reg.wanted_of rfl (Reg.yielded_of (t := 95) rfl xg))]
                    have x7 : a.tmps[7]? = some (.slice (some ⟨g2, 0, none⟩) m c2) := (ev.out 7 (by kernel_rfl)).trans rfl
                    clear hde ev hd HB
                    go_simp
                    exact hK _ _ ⟨hR.1.step (.inr rfl), hR.2⟩
                  refine Reg.Steps.cons (k' := 20) rfl ?_ ?_
                  · intro D vals a W hR hd hde ev K' hK
                    have HB := hR.2
                    have dg := Reg.dep hde 12 rfl
                    have xg : a.tmps[95]? = some (.bool true) := ev.got hR.1 12 95 _ rfl rfl dg
                    rw [if_pos (Reg.wanted_of rfl (Reg.yielded_of (t := 95) rfl xg))]
                    have x16 : a.tmps[16]? = some (.int .i64 (k : Int)) := (ev.out 16 (by kernel_rfl)).trans rfl
                    clear hde ev hd HB
                    go_simp
                    exact hK _ _ ⟨hR.1.step (.inr rfl), hR.2⟩
                  refine Reg.Steps.cons (k' := 21) rfl ?_ ?_
                  · intro D vals a W hR hd hde ev K' hK
                    have HB := hR.2
                    have dg := Reg.dep hde 12 rfl
                    have xg : a.tmps[95]? = some (.bool true) := ev.got hR.1 12 95 _ rfl rfl dg
                    rw [if_pos (Reg.wanted_of rfl (Reg.yielded_of (t := 95) rfl xg))]
                    have d19 := Reg.dep hde 19 rfl
                    have x102 : a.tmps[102]? = some (.int .i64 (k : Int)) := ev.got hR.1 19 102 _ rfl rfl d19
                    clear hde ev hd HB
                    go_simp
                    exact hK _ _ ⟨hR.1.step (.inr rfl), hR.2⟩
                  refine Reg.Steps.cons (k' := 22) rfl ?_ ?_
                  · intro D vals a W hR hd hde ev K' hK
                    have HB := hR.2
                    have dg := Reg.dep hde 12 rfl
                    have xg : a.tmps[95]? = some (.bool true) := ev.got hR.1 12 95 _ rfl rfl dg
                    rw [if_pos (Reg.wanted_of rfl (Reg.yielded_of (t := 95) rfl xg))]
                    have d18 := Reg.dep hde 18 rfl
                    have x101 : a.tmps[101]? = some (.slice (some ⟨g2, 0, none⟩) m c2) := ev.got hR.1 18 101 _ rfl rfl d18
                    have d20 := Reg.dep hde 20 rfl
                    have x103 : a.tmps[103]? = some (.int .i64 (k' : Int)) := ev.got hR.1 20 103 _ rfl rfl d20
                    clear hde ev hd HB
                    go_simp
                    exact hK _ _ ⟨hR.1.step (.inr rfl), hR.2⟩
                  refine Reg.Steps.cons (k' := 23) rfl ?_ ?_
                  · intro D vals a W hR hd hde ev K' hK
                    have HB := hR.2
                    have dg := Reg.dep hde 12 rfl
                    have xg : a.tmps[95]? = some (.bool true) := ev.got hR.1 12 95 _ rfl rfl dg
                    rw [if_pos (Reg.wanted_of rfl (Reg.yielded_of (t := 95) rfl xg))]
                    have d21 := Reg.dep hde 21 rfl
                    have x104 : a.tmps[104]? = some (.pointer (some ⟨g2, k' * 6, none⟩)) := ev.got hR.1 21 104 _ rfl rfl d21
                    clear hde ev hd HB
                    go_simp
                    exact hK _ _ ⟨hR.1.step (.inr rfl), hR.2⟩
                  refine Reg.Steps.cons (k' := 24) rfl ?_ ?_
                  · intro D vals a W hR hd hde ev K' hK
                    have HB := hR.2
                    have dg := Reg.dep hde 12 rfl
                    have xg : a.tmps[95]? = some (.bool true) := ev.got hR.1 12 95 _ rfl rfl dg
                    rw [if_pos (Reg.wanted_of rfl (Reg.yielded_of (t := 95) rfl xg))]
                    have d22 := Reg.dep hde 22 rfl
                    have x105 : a.tmps[105]? = some (.pointer (some ⟨g2, k' * 6 + 1, none⟩)) := ev.got hR.1 22 105 _ rfl rfl d22
                    have q := HPC.out W HB
                    clear hde ev hd HB
                    go_simp
                    exact hK _ _ ⟨hR.1.step (.inr rfl), hR.2⟩
                  refine Reg.Steps.cons (k' := 25) rfl ?_ ?_
                  · intro D vals a W hR hd hde ev K' hK
                    have HB := hR.2
                    have dg := Reg.dep hde 12 rfl
                    have xg : a.tmps[95]? = some (.bool true) := ev.got hR.1 12 95 _ rfl rfl dg
                    rw [if_pos (Reg.wanted_of rfl (Reg.yielded_of (t := 95) rfl xg))]
                    have d16 := Reg.dep hde 16 rfl
                    have x99 : a.tmps[99]? = some (.pointer (some ⟨P, 0, none⟩)) := ev.got hR.1 16 99 _ rfl rfl d16
                    have d17 := Reg.dep hde 17 rfl
                    have x100 : a.tmps[100]? = some (.agg #[.int .u64 (ow : Int), .int .u64 (xm : Int), .int .u64 (xx : Int), .slice RA rn rc]) := ev.got hR.1 17 100 _ rfl rfl d17
                    have d23 := Reg.dep hde 23 rfl
                    have x106 : a.tmps[106]? = some (.int .u64 (pa : Int)) := ev.got hR.1 23 106 _ rfl rfl d23
                    have CC := Lib.hid (by have h := HSEES.out W (HB24.out.trans (HB.mono HB24.out.size)) pa HPA.out; rewrite [HSP.out] at h; exact h)
                    have HR1 := Lib.hid hR
                    clear hde ev hd HB hR
                    go_simp
                    refine CC.out.mono ?_
                    rintro e W1 ⟨rfl, hb⟩
                    exact hK _ _ ⟨HR1.out.1.step (.inr rfl), HR1.out.2.trans (hb.mono HR1.out.2.size)⟩
                  refine Reg.Steps.cons (k' := 26) rfl ?_ ?_
                  · intro D vals a W hR hd hde ev K' hK
                    have HB := hR.2
                    have dg := Reg.dep hde 12 rfl
                    have xg : a.tmps[95]? = some (.bool true) := ev.got hR.1 12 95 _ rfl rfl dg
                    rw [if_pos (Reg.wanted_of rfl (Reg.yielded_of (t := 95) rfl xg))]
                    have d24 := Reg.dep hde 24 rfl
                    have x107 : a.tmps[107]? = some (.bool pv) := ev.got hR.1 24 107 _ rfl rfl d24
                    clear hde ev hd HB
                    go_simp
                    exact hK _ _ ⟨hR.1.step (.inr rfl), hR.2⟩
                  refine Reg.Steps.cons (k' := 27) rfl ?_ ?_
                  · intro D vals a W hR hd hde ev K' hK
                    have HB := hR.2
                    have d12 := Reg.dep hde 12 rfl
                    have x95 : a.tmps[95]? = some (.bool true) := ev.got hR.1 12 95 _ rfl rfl d12
                    have d25 := Reg.dep hde 25 rfl
                    have x108 : a.tmps[108]? = some (.bool (!pv)) := ev.got hR.1 25 108 _ rfl rfl d25
                    clear hde ev hd HB
                    go_simp
                    exact hK _ _ ⟨hR.1.step (.inr rfl), hR.2⟩
                  exact Reg.Steps.nil
                · intro D vals W2 hD hR
                  have hB2 := hR.2
                  have ev26 := hR.1 26 _ rfl (hD 26 (by decide))
                  clear hR hD
                  simp only [Reg.fin, Act.put, List.setIfInBounds_toArray, List.set_cons_zero, List.set_cons_succ, ev26]
                  clear ev26
                  generalize vals 0 = z0; generalize vals 1 = z1; generalize vals 2 = z2; generalize vals 3 = z3; generalize vals 4 = z4; generalize vals 5 = z5; generalize vals 6 = z6; generalize vals 7 = z7; generalize vals 8 = z8; generalize vals 9 = z9; generalize vals 10 = z10; generalize vals 11 = z11; generalize vals 12 = z12; generalize vals 13 = z13; generalize vals 14 = z14; generalize vals 15 = z15; generalize vals 16 = z16; generalize vals 17 = z17; generalize vals 18 = z18; generalize vals 19 = z19; generalize vals 20 = z20; generalize vals 21 = z21; generalize vals 22 = z22; generalize vals 23 = z23; generalize vals 24 = z24; generalize vals 25 = z25
                  clear vals
                  cases pv
                  · go_wp2_with fail
                    obtain ⟨W6, hW6⟩ : ∃ W6, W6 = W2 := ⟨_, rfl⟩
                    rw [← hW6] at hB2 ⊢
                    clear hW6 W2
                    have HB46 := Lib.hid (HB45.out.trans (hB2.mono HB45.out.size))
                    have HB26 := Lib.hid (HB24.out.trans (hB2.mono HB24.out.size))
                    have HKS6 := Lib.hid (HKS.out.below hB2 HKS.out.lt)
                    have HKT6 := Lib.hid (HKT.out.below hB2 HKT.out.lt)
                    clear hB2
                    refine Reg.wp_region_inv_lit (by kernel_rfl) (by kernel_rfl) (fun D vals W => Reg.Fx (fun k9 => ([some (.pointer (some ⟨PB, 0, none⟩)), some (.pointer (some ⟨PB, 0, none⟩)), some (.pointer (some ⟨PB, 0, none⟩)), some (.pointer (some ⟨P, 0, none⟩)), some (.agg #[.int .u64 (ow : Int), .int .u64 (xm : Int), .int .u64 (xx : Int), .slice RA rn rc]), some (.agg #[.int .u64 0, .int .u64 (ta : Int), .int .u64 (tb : Int), .int .i64 0, .int .i64 0, .slice none 0 0]), some (.bool vv)] : List (Option Value)).getD k9 none) D vals ∧ Below W6.heap.size W6 W) ⟨Reg.Fx.init _ _, ⟨rfl, rfl, rfl, Nat.le_refl _, fun _ _ => rfl⟩⟩ (fun Q' => ?_) ?_
                    · refine Reg.Steps.cons (k' := 1) rfl ?_ ?_
                      · intro D vals a W hR hd hde ev K' hK
                        have HB := hR.2
                        have x5 : a.tmps[5]? = some (.pointer (some ⟨PB, 0, none⟩)) := (ev.out 5 (by kernel_rfl)).trans rfl
                        clear hde ev hd HB
                        go_simp
                        exact hK _ _ ⟨hR.1.step (.inr rfl), hR.2⟩
                      refine Reg.Steps.cons (k' := 2) rfl ?_ ?_
                      · intro D vals a W hR hd hde ev K' hK
                        have HB := hR.2
                        have d0 := Reg.dep hde 0 rfl
                        have x110 : a.tmps[110]? = some (.pointer (some ⟨PB, 0, none⟩)) := ev.got hR.1 0 110 _ rfl rfl d0
                        clear hde ev hd HB
                        go_simp
                        exact hK _ _ ⟨hR.1.step (.inr rfl), hR.2⟩
                      refine Reg.Steps.cons (k' := 3) rfl ?_ ?_
                      · intro D vals a W hR hd hde ev K' hK
                        have HB := hR.2
                        have d1 := Reg.dep hde 1 rfl
                        have x111 : a.tmps[111]? = some (.pointer (some ⟨PB, 0, none⟩)) := ev.got hR.1 1 111 _ rfl rfl d1
                        clear hde ev hd HB
                        go_simp
                        exact hK _ _ ⟨hR.1.step (.inr rfl), hR.2⟩
                      refine Reg.Steps.cons (k' := 4) rfl ?_ ?_
                      · intro D vals a W hR hd hde ev K' hK
                        have HB := hR.2
                        have d2 := Reg.dep hde 2 rfl
                        have x112 : a.tmps[112]? = some (.pointer (some ⟨PB, 0, none⟩)) := ev.got hR.1 2 112 _ rfl rfl d2
                        have q := (HPSW.out W (HB26.out.trans (HB.mono HB26.out.size))).pb.cell 0
                        clear hde ev hd HB
                        go_simp
                        exact hK _ _ ⟨hR.1.step (.inr rfl), hR.2⟩
                      refine Reg.Steps.cons (k' := 5) rfl ?_ ?_
                      · intro D vals a W hR hd hde ev K' hK
                        have HB := hR.2
                        have x14 : a.tmps[14]? = some (.pointer (some ⟨gS, 0, none⟩)) := (ev.out 14 (by kernel_rfl)).trans rfl
                        have ks := HKS6.out.below HB HKS6.out.lt
                        have q0 := ks.cell 0
                        have q1 := ks.cell 1
                        have q2 := ks.cell 2
                        have q3 := ks.cell 3
                        clear ks
                        clear hde ev hd HB
                        go_simp
                        exact hK _ _ ⟨hR.1.step (.inr rfl), hR.2⟩
                      refine Reg.Steps.cons (k' := 6) rfl ?_ ?_
                      · intro D vals a W hR hd hde ev K' hK
                        have HB := hR.2
                        have x17 : a.tmps[17]? = some (.pointer (some ⟨gT, 0, none⟩)) := (ev.out 17 (by kernel_rfl)).trans rfl
                        have kt := HKT6.out.below HB HKT6.out.lt
                        have q0 := kt.cell 0
                        have q1 := kt.cell 1
                        have q2 := kt.cell 2
                        have q3 := kt.cell 3
                        have q4 := kt.cell 4
                        have q5 := kt.cell 5
                        clear kt
                        clear hde ev hd HB
                        go_simp
                        exact hK _ _ ⟨hR.1.step (.inr rfl), hR.2⟩
                      refine Reg.Steps.cons (k' := 7) rfl ?_ ?_
                      · intro D vals a W hR hd hde ev K' hK
                        have HB := hR.2
                        have d3 := Reg.dep hde 3 rfl
                        have x113 : a.tmps[113]? = some (.pointer (some ⟨P, 0, none⟩)) := ev.got hR.1 3 113 _ rfl rfl d3
                        have d4 := Reg.dep hde 4 rfl
                        have x114 : a.tmps[114]? = some (.agg #[.int .u64 (ow : Int), .int .u64 (xm : Int), .int .u64 (xx : Int), .slice RA rn rc]) := ev.got hR.1 4 114 _ rfl rfl d4
                        have d5 := Reg.dep hde 5 rfl
                        have x115 : a.tmps[115]? = some (.agg #[.int .u64 0, .int .u64 (ta : Int), .int .u64 (tb : Int), .int .i64 0, .int .i64 0, .slice none 0 0]) := ev.got hR.1 5 115 _ rfl rfl d5
                        have CC := Lib.hid (by have h := HVIS.out W (HB26.out.trans (HB.mono HB26.out.size)) ta tb HTAB.out.1 HTAB.out.2; rewrite [HVV.out] at h; exact h)
                        have HR1 := Lib.hid hR
                        clear hde ev hd HB hR
                        go_simp
                        refine CC.out.mono ?_
                        rintro e W1 ⟨rfl, hb⟩
                        exact hK _ _ ⟨HR1.out.1.step (.inr rfl), HR1.out.2.trans (hb.mono HR1.out.2.size)⟩
                      exact Reg.Steps.nil
                    · intro D vals W2 hD hR
                      have hB2 := hR.2
                      have ev6 := hR.1 6 _ rfl (hD 6 (by decide))
                      clear hR hD
                      simp only [Reg.fin, Act.put, List.setIfInBounds_toArray, List.set_cons_zero, List.set_cons_succ, ev6]
                      clear ev6
                      generalize vals 0 = z0; generalize vals 1 = z1; generalize vals 2 = z2; generalize vals 3 = z3; generalize vals 4 = z4; generalize vals 5 = z5
                      clear vals
                      have HB4F := Lib.hid (HB46.out.trans (hB2.mono HB46.out.size))
                      clear hB2
                      have HVB := Lib.hid HVV
                      cases vv
                      · go_wp2_with fail
                        go_roundw
                        case rel => exact ⟨k + 1, by omega, by go_num, (-100), rfl, (good_reset false), HB4F.out⟩
                        case measure => simp [intOf]; omega
                      · go_wp2_with fail
                        go_roundw
                        case rel => exact ⟨k + 1, by omega, by go_num, (-100) + 1, by go_num, (good_reset true), HB4F.out⟩
                        case measure => simp [intOf]; omega
                  · have HG : Hid (Good bS tl (k + 1) (if (bS ta && (tb == 0 || !bS tb)) = true then z + 1 else z)) := Lib.hid (Good.calm HC.out HGOOD.out HTK.out (fun _ _ a' b' e => by rw [HPK.out] at e; injection e with e; injection e with e1 e2; rw [← e1]; exact HSP.out))
                    go_wp2_with fail
                    obtain ⟨W6, hW6⟩ : ∃ W6, W6 = W2 := ⟨_, rfl⟩
                    rw [← hW6] at hB2 ⊢
                    clear hW6 W2
                    have HB46 := Lib.hid (HB45.out.trans (hB2.mono HB45.out.size))
                    have HB26 := Lib.hid (HB24.out.trans (hB2.mono HB24.out.size))
                    have HKS6 := Lib.hid (HKS.out.below hB2 HKS.out.lt)
                    have HKT6 := Lib.hid (HKT.out.below hB2 HKT.out.lt)
                    clear hB2
                    refine Reg.wp_region_inv_lit (by kernel_rfl) (by kernel_rfl) (fun D vals W => Reg.Fx (fun k9 => ([some (.pointer (some ⟨PB, 0, none⟩)), some (.pointer (some ⟨PB, 0, none⟩)), some (.pointer (some ⟨PB, 0, none⟩)), some (.pointer (some ⟨P, 0, none⟩)), some (.agg #[.int .u64 (ow : Int), .int .u64 (xm : Int), .int .u64 (xx : Int), .slice RA rn rc]), some (.agg #[.int .u64 0, .int .u64 (ta : Int), .int .u64 (tb : Int), .int .i64 0, .int .i64 0, .slice none 0 0]), some (.bool vv)] : List (Option Value)).getD k9 none) D vals ∧ Below W6.heap.size W6 W) ⟨Reg.Fx.init _ _, ⟨rfl, rfl, rfl, Nat.le_refl _, fun _ _ => rfl⟩⟩ (fun Q' => ?_) ?_
                    · refine Reg.Steps.cons (k' := 1) rfl ?_ ?_
                      · intro D vals a W hR hd hde ev K' hK
                        have HB := hR.2
                        have x5 : a.tmps[5]? = some (.pointer (some ⟨PB, 0, none⟩)) := (ev.out 5 (by kernel_rfl)).trans rfl
                        clear hde ev hd HB
                        go_simp
                        exact hK _ _ ⟨hR.1.step (.inr rfl), hR.2⟩
                      refine Reg.Steps.cons (k' := 2) rfl ?_ ?_
                      · intro D vals a W hR hd hde ev K' hK
                        have HB := hR.2
                        have d0 := Reg.dep hde 0 rfl
                        have x110 : a.tmps[110]? = some (.pointer (some ⟨PB, 0, none⟩)) := ev.got hR.1 0 110 _ rfl rfl d0
                        clear hde ev hd HB
                        go_simp
                        exact hK _ _ ⟨hR.1.step (.inr rfl), hR.2⟩
                      refine Reg.Steps.cons (k' := 3) rfl ?_ ?_
                      · intro D vals a W hR hd hde ev K' hK
                        have HB := hR.2
                        have d1 := Reg.dep hde 1 rfl
                        have x111 : a.tmps[111]? = some (.pointer (some ⟨PB, 0, none⟩)) := ev.got hR.1 1 111 _ rfl rfl d1
                        clear hde ev hd HB
                        go_simp
                        exact hK _ _ ⟨hR.1.step (.inr rfl), hR.2⟩
                      refine Reg.Steps.cons (k' := 4) rfl ?_ ?_
                      · intro D vals a W hR hd hde ev K' hK
                        have HB := hR.2
                        have d2 := Reg.dep hde 2 rfl
                        have x112 : a.tmps[112]? = some (.pointer (some ⟨PB, 0, none⟩)) := ev.got hR.1 2 112 _ rfl rfl d2
                        have q := (HPSW.out W (HB26.out.trans (HB.mono HB26.out.size))).pb.cell 0
                        clear hde ev hd HB
                        go_simp
                        exact hK _ _ ⟨hR.1.step (.inr rfl), hR.2⟩
                      refine Reg.Steps.cons (k' := 5) rfl ?_ ?_
                      · intro D vals a W hR hd hde ev K' hK
                        have HB := hR.2
                        have x14 : a.tmps[14]? = some (.pointer (some ⟨gS, 0, none⟩)) := (ev.out 14 (by kernel_rfl)).trans rfl
                        have ks := HKS6.out.below HB HKS6.out.lt
                        have q0 := ks.cell 0
                        have q1 := ks.cell 1
                        have q2 := ks.cell 2
                        have q3 := ks.cell 3
                        clear ks
                        clear hde ev hd HB
                        go_simp
                        exact hK _ _ ⟨hR.1.step (.inr rfl), hR.2⟩
                      refine Reg.Steps.cons (k' := 6) rfl ?_ ?_
                      · intro D vals a W hR hd hde ev K' hK
                        have HB := hR.2
                        have x17 : a.tmps[17]? = some (.pointer (some ⟨gT, 0, none⟩)) := (ev.out 17 (by kernel_rfl)).trans rfl
                        have kt := HKT6.out.below HB HKT6.out.lt
                        have q0 := kt.cell 0
                        have q1 := kt.cell 1
                        have q2 := kt.cell 2
                        have q3 := kt.cell 3
                        have q4 := kt.cell 4
                        have q5 := kt.cell 5
                        clear kt
                        clear hde ev hd HB
                        go_simp
                        exact hK _ _ ⟨hR.1.step (.inr rfl), hR.2⟩
                      refine Reg.Steps.cons (k' := 7) rfl ?_ ?_
                      · intro D vals a W hR hd hde ev K' hK
                        have HB := hR.2
                        have d3 := Reg.dep hde 3 rfl
                        have x113 : a.tmps[113]? = some (.pointer (some ⟨P, 0, none⟩)) := ev.got hR.1 3 113 _ rfl rfl d3
                        have d4 := Reg.dep hde 4 rfl
                        have x114 : a.tmps[114]? = some (.agg #[.int .u64 (ow : Int), .int .u64 (xm : Int), .int .u64 (xx : Int), .slice RA rn rc]) := ev.got hR.1 4 114 _ rfl rfl d4
                        have d5 := Reg.dep hde 5 rfl
                        have x115 : a.tmps[115]? = some (.agg #[.int .u64 0, .int .u64 (ta : Int), .int .u64 (tb : Int), .int .i64 0, .int .i64 0, .slice none 0 0]) := ev.got hR.1 5 115 _ rfl rfl d5
                        have CC := Lib.hid (by have h := HVIS.out W (HB26.out.trans (HB.mono HB26.out.size)) ta tb HTAB.out.1 HTAB.out.2; rewrite [HVV.out] at h; exact h)
                        have HR1 := Lib.hid hR
                        clear hde ev hd HB hR
                        go_simp
                        refine CC.out.mono ?_
                        rintro e W1 ⟨rfl, hb⟩
                        exact hK _ _ ⟨HR1.out.1.step (.inr rfl), HR1.out.2.trans (hb.mono HR1.out.2.size)⟩
                      exact Reg.Steps.nil
                    · intro D vals W2 hD hR
                      have hB2 := hR.2
                      have ev6 := hR.1 6 _ rfl (hD 6 (by decide))
                      clear hR hD
                      simp only [Reg.fin, Act.put, List.setIfInBounds_toArray, List.set_cons_zero, List.set_cons_succ, ev6]
                      clear ev6
                      generalize vals 0 = z0; generalize vals 1 = z1; generalize vals 2 = z2; generalize vals 3 = z3; generalize vals 4 = z4; generalize vals 5 = z5
                      clear vals
                      have HB4F := Lib.hid (HB46.out.trans (hB2.mono HB46.out.size))
                      clear hB2
                      have HVB := Lib.hid HVV
                      cases vv
                      · go_wp2_with fail
                        go_roundw
                        case rel => exact ⟨k + 1, by omega, by go_num, z, rfl, (by have h := HG.out; rw [HVB.out] at h; simpa using h), HB4F.out⟩
                        case measure => simp [intOf]; omega
                      · go_wp2_with fail
                        go_roundw
                        case rel => exact ⟨k + 1, by omega, by go_num, z + 1, by go_num, (by have h := HG.out; rw [HVB.out] at h; simpa using h), HB4F.out⟩
                        case measure => simp [intOf]; omega
            · obtain rfl : k = m := by omega
              have hz3 : ¬ (1 : Int) < z := by omega
              have HBF := Lib.hid (HB4.out.trans (HBI.out.mono HB4.out.size))
              go_wp2_with fail
              go_roundw
              case rel => exact ⟨t + 1, by omega, by go_num, HBF.out⟩
              case measure => simp [intOf]; omega
        · obtain rfl : t = p := by omega
          go_wp2_with fail
          go_ret
          exact ⟨rfl, bel_trans HWR.out HBO.out⟩
end Go.Proofs.Ytaadkgcpkghgmaa.Clg
