/- SnapRests: its walk. -/
import Derived.Test.YtajkedckleoboaaSnapJ
import Derived.Deep.RegionHeld3
import Derived.Test.YtajkedckleoboaaOpenC
namespace Go.Proofs.Ytajkedckleoboaa.Clg
open Go.ChangeMaps Go.MapKept Go.RowKit Go.Proofs.Ytajkedckleoboaa.Nums Go.Proofs.Ytajkedckleoboaa.Mem
set_option linter.unusedVariables false
set_option linter.unusedSimpArgs false
set_option maxRecDepth 100000
theorem fresh_below {W W' : World} {cs : Array Value} {t : TypeId} (h : Below (W.alloc (.cells cs t)).drew.heap.size (W.alloc (.cells cs t)).drew W') : Blk W' W.heap.size t cs :=
  (show Blk (W.alloc (.cells cs t)).drew W.heap.size t cs from Blk.new W t cs).below h (show W.heap.size < (W.alloc (.cells cs t)).heap.size by rw [size_alloc]; exact Nat.lt_succ_self _)
theorem chain6 {a W : World} {b : Nat} (h : Below a.heap.size a W) (hb : a.heap.size ≤ b) (v0 v1 v2 v3 v4 v5 : Value) : Below a.heap.size a ((((((W.setCell ⟨b, 0, none⟩ v0).setCell ⟨b, 1, none⟩ v1).setCell ⟨b, 2, none⟩ v2).setCell ⟨b, 3, none⟩ v3).setCell ⟨b, 4, none⟩ v4).setCell ⟨b, 5, none⟩ v5) :=
  (((((h.setCell (p := ⟨b, 0, none⟩) hb v0).setCell (p := ⟨b, 1, none⟩) hb v1).setCell (p := ⟨b, 2, none⟩) hb v2).setCell (p := ⟨b, 3, none⟩) hb v3).setCell (p := ⟨b, 4, none⟩) hb v4).setCell (p := ⟨b, 5, none⟩) hb v5
set_option maxHeartbeats 8000000 in
theorem rests_walk (w : World) (l : List O10) (A : Option Addr) (n c : Nat) (l2 : List St) (A2 : Option Addr) (n2 c2 : Nat) (hl : l.length = n) (hs : Sl w w.heap.size 2 A n c (o10_s l)) (hok : ∀ o ∈ l, o.ok) (hl2 : l2.length = n2) (hs2 : Sl w w.heap.size 2 A2 n2 c2 (st_s l2)) (hok2 : ∀ o ∈ l2, o.ok) :
    Calls Try.prog 10 #[.slice A n c, .slice A2 n2 c2] w fun e w' => e = .returned (.bool true) ∧ Below w.heap.size w w' := by
  have HS := Lib.hid hs
  have HL := Lib.hid hl
  have HOK := Lib.hid hok
  have HS2 := Lib.hid hs2
  have HL2 := Lib.hid hl2
  have HOK2 := Lib.hid hok2
  have hcap := hs.cap
  have hle := hs.le
  unfold maxLen at hcap
  have hcap2 := hs2.cap
  have hle2 := hs2.le
  unfold maxLen at hcap2
  have hmm := @run_makeMap Try.prog
  have CN := Lib.hid (fun W (h : Below w.heap.size w W) => al_new W 1 (by omega) (by omega) h)
  clear hs hl hok hs2 hl2 hok2
  go_enter Try.func10, Try.ntmps10
  go_wp2_with fail
  refine (awakeS_any w).mono ?_
  rintro e w1 ⟨rfl, hb1⟩
  have HB1 := Lib.hid hb1
  clear hb1
  go_wp2_with fail
  refine (CN.out _ HB1.out).mono ?_
  rintro e w2 ⟨P, rfl, ha2, _, _⟩
  have HR3 : Hid (RS w (w2.alloc (.map #[] 0)) (fun g => g = w2.heap.size) P w2.heap.size [] (fun _ => zeroSv) (.map []) 0 [] none 0) := Lib.hid
    ⟨(ha2.alloc (.map #[] 0)).less (fun g hg => .inr hg), (fun s hs => by cases hs), (fun g hg => by rw [hg]; exact ha2.bel.size), rfl, World.ownsMap_made _ _ _ _, repL_new _, World.ownsRow_nil _ _ _ _, (fun g hg => by simp [Value.ownBlock] at hg), invR_new _⟩
  clear ha2 CN HB1
  go_wp2_with fail
  generalize w2.heap.size = M at *
  go_loopw [8, 31] (fun v i wr => ∃ q : Nat, q ≤ n ∧ i = .int .i64 q ∧ ∃ K S sv D dl A' c', S.length ≤ q ∧ S.length ≤ 50 ∧ dl.length ≤ q ∧ dl.length ≤ 50 ∧ (∀ t ∈ dl, t.1 < 50 ∧ t.2 < 50) ∧ v = .slice A' dl.length c' ∧ RS w wr K P M S sv D q dl A' c') (fun _ i _ => n - (intOf i).toNat)
  case atStart => exact ⟨0, by omega, rfl, _, [], _, _, [], none, 0, by simp, by simp, by simp, by simp, by simp, rfl, HR3.out⟩
  case round =>
    obtain ⟨q, hq, rfl, K, S, sv, D, dl, A', c', hSq, hS50, hdq, hd50, hdb, rfl, hrs⟩ := hrel
    have HDB := Lib.hid hdb
    clear hdb
    have HRS := Lib.hid hrs
    clear hrs HR3
    by_cases hlq : q < n
    · have hlq' : (q : Int) < n := by omega
      obtain ⟨o, ho⟩ : ∃ o, l[q]? = some o := ⟨_, List.getElem?_eq_getElem (by rw [HL.out]; exact hlq)⟩
      obtain ⟨ad, rfl, x0, x1⟩ := o10_cells HS.out HRS.out.al.bel ho HL.out
      obtain ⟨hd, hx⟩ := HOK.out o (List.mem_of_getElem? ho)
      obtain ⟨d, x⟩ := o
      have hd : d < 256 := hd
      have hx : x < 18446744073709551616 := hx
      have HR3 : Hid (RS w (wr.alloc (.cells #[.int .u8 (d : Int), .int .u64 (x : Int)] 89)) K P M S sv D q dl A' c') := Lib.hid (HRS.out.below (bel_alloc wr _))
      clear ho
      by_cases h50 : 50 ≤ q
      · have h50' : (50 : Int) ≤ q := by omega
        go_wp2_with fail
        go_ret
        exact ⟨rfl, HR3.out.al.bel⟩
      · have h50' : ¬ (50 : Int) ≤ q := by omega
        have hS49 : S.length < 50 := by omega
        have hdl49 : dl.length < 50 := by omega
        obtain ⟨p, hp⟩ : ∃ p : Nat, d % 4 = p := ⟨_, rfl⟩
        have hp' : (d : Int) % 4 = p := by omega
        have hd0 : (d : Int) < 256 := by omega
        have hx0 : (x : Int) < 18446744073709551616 := by omega
        obtain ⟨y, hy⟩ : ∃ y : Nat, x % 50 = y := ⟨_, rfl⟩
        have hy' : (x : Int) % 50 = y := by omega
        have hyy : y < 50 := by omega
        have hp4 : p < 4 := by omega
        clear hp hy
        rcases (show (p = 0 ∨ p = 1) ∨ p = 2 ∨ p = 3 by omega) with h | rfl | rfl
        · rcases h with rfl | rfl
          all_goals
            obtain ⟨nx, hnx⟩ : ∃ nx, 1 + S.length = nx := ⟨_, rfl⟩
            have CB := al_begin HR3.out.al (by omega)
            rw [hnx] at CB
            have CB := Lib.hid CB
            have HNX := Lib.hid hnx
            have hnx51 : nx ≤ 51 := by omega
            clear hnx
            go_wp2_with fail
            refine CB.out.mono ?_
            rintro e w5 ⟨rfl, ha5, hk5⟩
            have CT := Lib.hid (al_take ha5 nx)
            have HA5 := Lib.hid ha5
            have HK5 := Lib.hid hk5
            clear ha5 hk5
            go_wp2_with fail
            refine CT.out.mono ?_
            intro e w6 h6
            obtain ⟨A6, c6, rfl, hs6, hn6, hb6⟩ := h6
            obtain ⟨xm, hxm⟩ : ∃ xm, xminOf 1 (S ++ [1]) nx = xm := ⟨_, rfl⟩
            obtain ⟨xx, hxx⟩ : ∃ xx, 1 + (S ++ [1]).length = xx := ⟨_, rfl⟩
            obtain ⟨rn, hrn⟩ : ∃ rn, (runX 1 (S ++ [1]) nx).length = rn := ⟨_, rfl⟩
            rw [hxm, hxx, hrn]
            have HB6 := Lib.hid hb6
            have HM6 : Hid (HeldD w6 M q D) := Lib.hid ((HR3.out.hd.keep (HK5.out M HR3.out.kM)).keep ((HA5.out.below hb6).2 M HR3.out.kM))
            have HQM : Hid (q < maxLen) := Lib.hid (by unfold maxLen; omega)
            have HKY := Lib.hid (Maps.keyOf_int_mk Try.underlying22 (wfU (x := nx) (by omega)))
            have hbeg := fun W hm hT => HR3.out.begin_ (w' := W) HA5.out HK5.out HB6.out (s := ⟨nx, xm, xx, A6, rn, c6⟩) (by rw [HNX.out]; exact hxm.symm) hm hT
            simp only [HNX.out] at hbeg
            have HBEG := Lib.hid hbeg
            have hS7q : (S ++ [1]).length ≤ q + 1 := by rw [List.length_append]; show S.length + 1 ≤ q + 1; omega
            have hS7 : (S ++ [1]).length ≤ 50 := by rw [List.length_append]; show S.length + 1 ≤ 50; omega
            clear hs6 hn6 hb6 hxm hxx hrn hbeg
            go_wp2_with (first | (at_mapUpdate; refine wpList_mapUpdate_in _ rfl _ _ _ 94 rfl 22 76 lawU Try.underlying94 heldElem M q D rfl HM6.out HQM.out _ (Sv.val ⟨nx, xm, xx, A6, rn, c6⟩) _ rfl rfl HKY.out _ [] rfl ?_; intro w7 hown7 hturn7; have HR7 := Lib.hid (HBEG.out w7 hown7 hturn7); clear hown7 hturn7) | fail)
            generalize S ++ [1] = S' at *
            generalize svUp sv nx ⟨nx, xm, xx, A6, rn, c6⟩ = sv' at *
            generalize D.put (.int .u64 (nx : Int)) (.held (Sv.val ⟨nx, xm, xx, A6, rn, c6⟩)) = D' at *
            clear HBEG CT CB HA5 HK5 HB6 HM6 HKY

            have HSL7 := Lib.hid hS7q
            have HHS7 := Lib.hid hS7
            clear hp' hd0 hx0 hy' hyy hp4 hx hd x0 x1 hlq' hS7q hS7 hSq hS50 HRS HR3
            go_loopw [14, 69] (fun v i wz => ∃ j : Nat, j ≤ 60 ∧ i = .int .u64 j ∧ ∃ A5 c5, v = .slice A5 (liveL S' j).length c5 ∧ OwnS wz w7.heap.size (.slice A5 (liveL S' j).length c5) (liveL S' j).length (svs ((liveL S' j).map sv')) ∧ Below w7.heap.size w7 wz) (fun _ i _ => 60 - (intOf i).toNat)
            case atStart => exact ⟨0, by omega, rfl, none, 0, rfl, World.ownsRow_nil _ _ _ _, Below.refl _ _⟩
            case round =>
              obtain ⟨j, hj, rfl, A5, c5, rfl, ho5, hb5⟩ := hrel
              have HO5 := Lib.hid ho5
              have HB5 := Lib.hid hb5
              have hll : (liveL S' j).length ≤ j := by unfold liveL; exact Nat.le_trans (List.length_filter_le _ _) (by rw [List.length_range]; exact Nat.le_refl _)
              clear ho5 hb5
              by_cases hlj : j < 60
              · have hlj' : (j : Int) < 60 := by omega
                have HMJ := Lib.hid (HR7.out.below HB5.out).hd
                have hls := live_succ S' j
                by_cases hst : stOf 1 S' j = 1
                · rw [if_pos hst] at hls
                  have HLS := Lib.hid hls
                  have HST := Lib.hid hst
                  obtain ⟨L, hL⟩ : ∃ L, liveL S' j = L := ⟨_, rfl⟩
                  rw [hL] at HO5 hll HLS
                  rw [hL]
                  obtain ⟨r, hr⟩ : ∃ r, L.length = r := ⟨_, rfl⟩
                  have HLR := Lib.hid hr
                  rw [hr] at HO5 hll
                  rw [hr]
                  obtain ⟨s, hsv⟩ : ∃ s, sv' j = s := ⟨_, rfl⟩
                  have HSV := Lib.hid hsv
                  have hcs : s.cells = [.int .u64 (s.own : Int), .int .u64 (s.xmin : Int), .int .u64 (s.xmax : Int), .slice s.A s.n s.c] := rfl
                  obtain ⟨ow, xm, xx, sA, sn, sc⟩ := s
                  have hlk : ∀ (W : World), W = wr → (sv' j).val = .agg #[.int .u64 (ow : Int), .int .u64 (xm : Int), .int .u64 (xx : Int), .slice sA sn sc] := fun W _ => by rw [hsv]; rfl
                  have HLK := Lib.hid (hlk wr rfl)
                  clear hls hst hL hr hsv hcs hlk
                  go_wp2_with (first | (at_lookup; refine wpl_look_yes rfl _ _ rfl rfl rfl HMJ.out HR7.out.rep (x := j) (by omega) HST.out ?_; rw [HLK.out]) | (at_builtin; go_loud (refine wpl_app_s rfl (.tmp 79) (.tmp 81) rfl w7.heap.size _ r (svs (L.map sv')) rfl ((HO5.out.alloc _).alloc _) _ _ 1 _ rfl (lies_at _ _ _ 4 1 _ (size_alloc _ _) rfl) (sv_one ⟨ow, xm, xx, sA, sn, sc⟩) (by omega) (by rw [size_alloc, size_alloc]; have := HB5.out.size; omega) ?_; intro v1 w8 hown1 hg1; obtain ⟨A8, c8, hv1, _⟩ := Sl.of_own hown1; subst hv1; have HB8 := Lib.hid (((HB5.out.alloc HB5.out.size _).alloc (by rw [size_alloc]; have := HB5.out.size; omega) _).trans (hg1.below (by rw [size_alloc, size_alloc]; have := HB5.out.size; omega) (fun g hg => (HO5.out.lt g hg).1))); have HO8 := Lib.hid hown1; clear hown1 hg1)))
                  have hl1 : (liveL S' (j + 1)).length = r + 1 := by rw [HLS.out, List.length_append, HLR.out]; rfl
                  have hsv1 : svs ((liveL S' (j + 1)).map sv') = svs (L.map sv') ++ Sv.cells ⟨ow, xm, xx, sA, sn, sc⟩ := by rw [HLS.out, List.map_append, svs_app]; show _ ++ svs [sv' j] = _; rw [HSV.out]; unfold svs; simp
                  go_roundw
                  case rel => exact ⟨j + 1, by omega, by go_num, A8, c8, by rw [hl1], by rw [hl1, hsv1]; exact HO8.out, HB8.out⟩
                  case measure => simp [intOf]; omega
                · rw [if_neg hst, List.append_nil] at hls
                  have HLS := Lib.hid hls
                  have HST := Lib.hid hst
                  clear hls hst
                  go_wp2_with (first | (at_lookup; refine wpl_look_no rfl _ _ rfl rfl rfl HMJ.out HR7.out.rep (x := j) (by omega) HST.out ?_) | fail)
                  go_roundw
                  case rel => exact ⟨j + 1, by omega, by go_num, A5, c5, by rw [HLS.out], by rw [HLS.out]; exact HO5.out.alloc _, HB5.out.alloc HB5.out.size _⟩
                  case measure => simp [intOf]; omega
              · obtain rfl : j = 60 := by omega
                obtain ⟨A5', c5', e5, hs5⟩ := Sl.of_own HO5.out
                injection e5 with e51 _ e52
                subst e51 e52
                have CH := al_horizon (HR7.out.below HB5.out).al (l := (liveL S' 60).map sv') (n := (liveL S' 60).length) (by rw [List.length_map]) hs5
                have hmm2 : ((liveL S' 60).map sv').map Sv.xmin = (liveL S' 60).map fun x => (sv' x).xmin := by rw [List.map_map]; rfl
                rw [hmm2] at CH
                have hstill := fun t => HR7.out.inv.still (t := t)
                have HMORE : Hid (∀ (hz : Nat), hzOf (1 + S'.length) ((liveL S' 60).map fun x => (sv' x).xmin) = hz → ∀ a b, deadB 1 S' a b hz = true → deadB 1 S' a b (hzOf (1 + S'.length) ((liveL S' 60).map fun x => (sv' x).xmin)) = true) := Lib.hid (fun hz h a b hd => by rw [h]; exact hd)
                obtain ⟨hz, hhz⟩ : ∃ hz, hzOf (1 + S'.length) ((liveL S' 60).map fun x => (sv' x).xmin) = hz := ⟨_, rfl⟩
                have HHZ := Lib.hid hhz
                have HSTILL : Hid (∀ t, t ∈ dl → deadB 1 S' t.1 t.2 hz = true) := Lib.hid fun t ht => by rw [← hhz]; exact hstill t ht
                rw [hhz] at CH
                have CH := Lib.hid CH
                generalize (liveL S' 60).length = ll at *
                clear hs5 hmm2 hstill hhz hj hlj
                go_wp2_with fail
                refine CH.out.mono ?_
                rintro e w9 ⟨rfl, hb9⟩
                have HB9 := Lib.hid (HB5.out.trans (hb9.mono HB5.out.size))
                clear hb9
                obtain ⟨A6', c6', e6, hs6⟩ := Sl.of_own HR7.out.ot
                injection e6 with e61 _ e62
                subst e61 e62
                have HDS := Lib.hid hs6
                have hdcap := hs6.cap
                have hdle := hs6.le
                unfold maxLen at hdcap
                obtain ⟨dn, hdn⟩ : ∃ dn, dl.length = dn := ⟨_, rfl⟩
                have HDN := Lib.hid hdn
                rw [hdn] at HDS hdle hdq hd50 hdl49
                rw [hdn]
                clear hs6 hdn
                go_wp2_with fail
                go_loopw [89] (fun i wz => ∃ t : Nat, t ≤ dn ∧ i = .int .i64 t ∧ Below w7.heap.size w7 wz) (fun i _ => dn - (intOf i).toNat)
                case atStart => exact ⟨0, by omega, rfl, HB9.out⟩
                case round =>
                  obtain ⟨t, ht, rfl, hbt⟩ := hrel
                  have HBT := Lib.hid hbt
                  clear hbt
                  by_cases htd : t < dn
                  · have htd' : (t : Int) < dn := by omega
                    obtain ⟨z, hz'⟩ : ∃ z, dl[t]? = some z := ⟨_, List.getElem?_eq_getElem (by rw [HDN.out]; exact htd)⟩
                    obtain ⟨ae, rfl, t0, t1, t2, t3, t4, t5⟩ := tup_cells HDS.out HBT.out hz' HDN.out
                    obtain ⟨za, zb⟩ := z
                    have HBX : Hid (Below w7.heap.size w7 (wr.alloc (.cells #[.int .u64 0, .int .u64 (za : Int), .int .u64 (zb : Int), .int .i64 0, .int .i64 0, .slice none 0 0] 71))) := Lib.hid (HBT.out.alloc HBT.out.size _)
                    have CD := al_dead (HR7.out.below HBX.out).al HR7.out.ok (a := za) (b := zb) (z := hz) (Nat.lt_trans (HDB.out _ (List.mem_of_getElem? hz')).1 (by omega)) (Nat.lt_trans (HDB.out _ (List.mem_of_getElem? hz')).2 (by omega))
                    rw [HSTILL.out (za, zb) (List.mem_of_getElem? hz')] at CD
                    unfold tupV at CD
                    have CD := Lib.hid CD
                    clear hz'
                    go_wp2_with fail
                    refine CD.out.mono ?_
                    rintro e w10 ⟨rfl, hb10⟩
                    have HB10 := Lib.hid (HBX.out.trans (hb10.mono HBX.out.size))
                    clear hb10
                    go_wp2_with fail
                    go_roundw
                    case rel => exact ⟨t + 1, by omega, by go_num, HB10.out⟩
                    case measure => simp [intOf]; omega
                  · obtain rfl : t = dn := by omega
                    have HRT := Lib.hid (HR7.out.below HBT.out)
                    by_cases hq2 : q < n2
                    · have hq2' : (q : Int) < n2 := by omega
                      have hq50 : (q : Int) < 50 := by omega
                      go_wp2_with fail
                      obtain ⟨os, hos⟩ : ∃ o, l2[q]? = some o := ⟨_, List.getElem?_eq_getElem (by rw [HL2.out]; exact hq2)⟩
                      obtain ⟨av, rfl, v0, v1⟩ := st_cells HS2.out HRT.out.al.bel hos HL2.out
                      have HVC := Lib.hid fun W (h : Below w.heap.size w W) => (show W.cell? (av.add (q * 2)) = some (.int .u64 (os.a : Int)) ∧ W.cell? ⟨(av.add (q * 2)).block, (av.add (q * 2)).off + 1, none⟩ = some (.int .u64 (os.b : Int)) from by obtain ⟨av', e, x, y⟩ := st_cells HS2.out h hos HL2.out; injection e with e; subst e; exact ⟨x, y⟩)
                      obtain ⟨hva, hvb⟩ := HOK2.out os (List.mem_of_getElem? hos)
                      obtain ⟨sa, sb⟩ := os
                      have hva : sa < 18446744073709551616 := hva
                      have hvb : sb < 18446744073709551616 := hvb
                      have HB0 := Lib.hid HRT.out.al.bel
                      have HBd : Hid (Below w.heap.size w wr.drew) := Lib.hid HB0.out.drew
                      have HBa : Hid (∀ o, Below w.heap.size w (wr.alloc o).drew) := Lib.hid fun o => (HB0.out.alloc HB0.out.size o).drew
                      obtain ⟨za, hza⟩ : ∃ z : Nat, sa % 50 = z := ⟨_, rfl⟩
                      have hza' : (sa : Int) % 50 = za := by omega
                      have hza2 : (sa : Int).tmod 50 = za := by rw [Int.tmod_eq_emod_of_nonneg (by omega)]; omega
                      obtain ⟨zb, hzb⟩ : ∃ z : Nat, sb % 50 = z := ⟨_, rfl⟩
                      have hzb' : (sb : Int) % 50 = zb := by omega
                      have hzb2 : (sb : Int).tmod 50 = zb := by rw [Int.tmod_eq_emod_of_nonneg (by omega)]; omega
                      have hza50 : za < 50 := by omega
                      have hzb50 : zb < 50 := by omega
                      have hq0 : (0 : Int) ≤ q := by omega
                      have CTU := Lib.hid fun W => tuple_any W za zb
                      clear hos hza hzb
                      go_region_held3 (fun w' => w'.cell? (av.add (q * 2)) = some (.int .u64 (sa : Int)) ∧ w'.cell? ⟨(av.add (q * 2)).block, (av.add (q * 2)).off + 1, none⟩ = some (.int .u64 (sb : Int))) (first | with_reducible exact ⟨v0, v1⟩ | with_reducible exact HVC.out _ HBd.out | with_reducible exact HVC.out _ (HBa.out _) | with_reducible exact HVC.out _ hbT2 | with_reducible exact HVC.out _ (hbT2.alloc hbT2.size _) | with_reducible exact HVC.out _ (hbS _ _ _ _ _ _) ) ((go_at_call 31; refine (CTU.out _).mono ?_; rintro e wT ⟨rfl, hbT⟩; have hbT2 : Below w.heap.size w wT := (by first | with_reducible exact bel_trans HBd.out hbT | with_reducible exact bel_trans (HBa.out _) hbT); first | (have hN : Blk wT wr.heap.size 71 #[.int .u64 0, .int .u64 0, .int .u64 0, .int .i64 0, .int .i64 0, .slice none 0 0] := (by with_reducible exact fresh_below (W := wr) hbT); have hbS := chain6 hbT2 (b := wr.heap.size) HB0.out.size; have m0 : wT.cell? ⟨wr.heap.size, 0, none⟩ = some (.int .u64 0) := hN.cell 0; have m1 : wT.cell? ⟨wr.heap.size, 1, none⟩ = some (.int .u64 0) := hN.cell 1; have m2 : wT.cell? ⟨wr.heap.size, 2, none⟩ = some (.int .u64 0) := hN.cell 2; have m3 : wT.cell? ⟨wr.heap.size, 3, none⟩ = some (.int .i64 0) := hN.cell 3; have m4 : wT.cell? ⟨wr.heap.size, 4, none⟩ = some (.int .i64 0) := hN.cell 4; have m5 : wT.cell? ⟨wr.heap.size, 5, none⟩ = some (.slice none 0 0) := hN.cell 5; have f0 : wT.frozen? ⟨wr.heap.size, 0, none⟩ = false := hN.frozen 0; have f1 : wT.frozen? ⟨wr.heap.size, 1, none⟩ = false := hN.frozen 1; have f2 : wT.frozen? ⟨wr.heap.size, 2, none⟩ = false := hN.frozen 2; have f3 : wT.frozen? ⟨wr.heap.size, 3, none⟩ = false := hN.frozen 3; have f4 : wT.frozen? ⟨wr.heap.size, 4, none⟩ = false := hN.frozen 4; have f5 : wT.frozen? ⟨wr.heap.size, 5, none⟩ = false := hN.frozen 5) | (have hN := Blk.new wT 71 #[.int .u64 0, .int .u64 0, .int .u64 0, .int .i64 0, .int .i64 0, .slice none 0 0]; have m0 : (wT.alloc (.cells #[.int .u64 0, .int .u64 0, .int .u64 0, .int .i64 0, .int .i64 0, .slice none 0 0] 71)).cell? ⟨wT.heap.size, 0, none⟩ = some (.int .u64 0) := hN.cell 0; have m1 : (wT.alloc (.cells #[.int .u64 0, .int .u64 0, .int .u64 0, .int .i64 0, .int .i64 0, .slice none 0 0] 71)).cell? ⟨wT.heap.size, 1, none⟩ = some (.int .u64 0) := hN.cell 1; have m2 : (wT.alloc (.cells #[.int .u64 0, .int .u64 0, .int .u64 0, .int .i64 0, .int .i64 0, .slice none 0 0] 71)).cell? ⟨wT.heap.size, 2, none⟩ = some (.int .u64 0) := hN.cell 2; have m3 : (wT.alloc (.cells #[.int .u64 0, .int .u64 0, .int .u64 0, .int .i64 0, .int .i64 0, .slice none 0 0] 71)).cell? ⟨wT.heap.size, 3, none⟩ = some (.int .i64 0) := hN.cell 3; have m4 : (wT.alloc (.cells #[.int .u64 0, .int .u64 0, .int .u64 0, .int .i64 0, .int .i64 0, .slice none 0 0] 71)).cell? ⟨wT.heap.size, 4, none⟩ = some (.int .i64 0) := hN.cell 4; have m5 : (wT.alloc (.cells #[.int .u64 0, .int .u64 0, .int .u64 0, .int .i64 0, .int .i64 0, .slice none 0 0] 71)).cell? ⟨wT.heap.size, 5, none⟩ = some (.slice none 0 0) := hN.cell 5; have f0 : (wT.alloc (.cells #[.int .u64 0, .int .u64 0, .int .u64 0, .int .i64 0, .int .i64 0, .slice none 0 0] 71)).frozen? ⟨wT.heap.size, 0, none⟩ = false := hN.frozen 0; have f1 : (wT.alloc (.cells #[.int .u64 0, .int .u64 0, .int .u64 0, .int .i64 0, .int .i64 0, .slice none 0 0] 71)).frozen? ⟨wT.heap.size, 1, none⟩ = false := hN.frozen 1; have f2 : (wT.alloc (.cells #[.int .u64 0, .int .u64 0, .int .u64 0, .int .i64 0, .int .i64 0, .slice none 0 0] 71)).frozen? ⟨wT.heap.size, 2, none⟩ = false := hN.frozen 2; have f3 : (wT.alloc (.cells #[.int .u64 0, .int .u64 0, .int .u64 0, .int .i64 0, .int .i64 0, .slice none 0 0] 71)).frozen? ⟨wT.heap.size, 3, none⟩ = false := hN.frozen 3; have f4 : (wT.alloc (.cells #[.int .u64 0, .int .u64 0, .int .u64 0, .int .i64 0, .int .i64 0, .slice none 0 0] 71)).frozen? ⟨wT.heap.size, 4, none⟩ = false := hN.frozen 4; have f5 : (wT.alloc (.cells #[.int .u64 0, .int .u64 0, .int .u64 0, .int .i64 0, .int .i64 0, .slice none 0 0] 71)).frozen? ⟨wT.heap.size, 5, none⟩ = false := hN.frozen 5)))
                      · have HBX : Hid (Below w7.heap.size w7 (wT.alloc (.cells #[.int .u64 0, .int .u64 (za : Int), .int .u64 (zb : Int), .int .i64 0, .int .i64 0, .slice none 0 0] 71))) := Lib.hid (bel_trans (bel_trans HBT.out.drew hbT) (bel_alloc _ _))
                        have HNX : Hid (Blk (wT.alloc (.cells #[.int .u64 0, .int .u64 (za : Int), .int .u64 (zb : Int), .int .i64 0, .int .i64 0, .slice none 0 0] 71)) wT.heap.size 71 #[.int .u64 0, .int .u64 (za : Int), .int .u64 (zb : Int), .int .i64 0, .int .i64 0, .slice none 0 0]) := Lib.hid (Blk.new _ _ _)
                        clear hN hbT hbT2 m0 m1 m2 m3 m4 m5 f0 f1 f2 f3 f4 f5 v0 v1
                        generalize (wT.alloc (.cells #[.int .u64 0, .int .u64 (za : Int), .int .u64 (zb : Int), .int .i64 0, .int .i64 0, .slice none 0 0] 71)) = wX at *
                        generalize wT.heap.size = G at *
                        have g0 : wX.cell? ⟨G, 0, none⟩ = some (.int .u64 0) := HNX.out.cell 0
                        have g1 : wX.cell? ⟨G, 1, none⟩ = some (.int .u64 (za : Int)) := HNX.out.cell 1
                        have g2 : wX.cell? ⟨G, 2, none⟩ = some (.int .u64 (zb : Int)) := HNX.out.cell 2
                        have g3 : wX.cell? ⟨G, 3, none⟩ = some (.int .i64 0) := HNX.out.cell 3
                        have g4 : wX.cell? ⟨G, 4, none⟩ = some (.int .i64 0) := HNX.out.cell 4
                        have g5 : wX.cell? ⟨G, 5, none⟩ = some (.slice none 0 0) := HNX.out.cell 5
                        have HRX := Lib.hid (HR7.out.below HBX.out)
                        have CD := al_dead HRX.out.al HR7.out.ok (a := za) (b := zb) (z := hz) (by omega) (by omega)
                        unfold tupV at CD
                        cases hdd : deadB 1 S' za zb hz
                        · rw [hdd] at CD
                          have CD := Lib.hid CD
                          go_wp2_with fail
                          refine CD.out.mono ?_
                          rintro e wD ⟨rfl, hbD⟩
                          have HRD := Lib.hid (HRX.out.below hbD)
                          clear hbD
                          go_wp2_with fail
                          go_roundw
                          case rel => exact ⟨q + 1, by omega, by go_num, K, S', sv', D', dl, A', c', HSL7.out, HHS7.out, by have := HDN.out; omega, by have := HDN.out; omega, HDB.out, by rw [HDN.out], HRD.out⟩
                          case measure => simp [intOf]; omega
                        · rw [hdd] at CD
                          have CD := Lib.hid CD
                          have HDD := Lib.hid hdd
                          clear hdd
                          go_wp2_with fail
                          refine CD.out.mono ?_
                          rintro e wD ⟨rfl, hbD⟩
                          have HRD := Lib.hid (HRX.out.below hbD)
                          have hot := HRD.out.ot
                          rw [HDN.out] at hot
                          have HOT := Lib.hid hot
                          have HND := Lib.hid (HNX.out.below hbD HNX.out.lt)
                          clear hbD g0 g1 g2 g3 g4 g5 hot
                          have k0 : wD.cell? ⟨G, 0, none⟩ = some (.int .u64 0) := HND.out.cell 0
                          have k1 : wD.cell? ⟨G, 1, none⟩ = some (.int .u64 (za : Int)) := HND.out.cell 1
                          have k2 : wD.cell? ⟨G, 2, none⟩ = some (.int .u64 (zb : Int)) := HND.out.cell 2
                          have k3 : wD.cell? ⟨G, 3, none⟩ = some (.int .i64 0) := HND.out.cell 3
                          have k4 : wD.cell? ⟨G, 4, none⟩ = some (.int .i64 0) := HND.out.cell 4
                          have k5 : wD.cell? ⟨G, 5, none⟩ = some (.slice none 0 0) := HND.out.cell 5
                          go_wp2_with (at_builtin; go_loud (refine wpl_app_t rfl (.tmp 124) (.tmp 126) rfl w.heap.size _ t (tups dl) rfl (HOT.out.alloc _) _ _ 1 _ rfl (lies_lit _ _ _ 6 1 rfl) (tup_one (za, zb)) (by omega) (by rw [size_alloc]; have := HRD.out.al.bel.size; omega) ?_; intro v1 w8 hown1 hg1; rw [← HDN.out] at hown1 hg1; obtain ⟨K9, A9, c9, hv1, hrs9⟩ := HRD.out.more (by have := HHS7.out; omega) (HMORE.out hz HHZ.out za zb HDD.out) hown1 hg1; rw [HDN.out] at hv1; subst hv1; have HR9 := Lib.hid hrs9; clear hrs9 hown1 hg1))
                          have hln : (dl ++ [(za, zb)]).length = t + 1 := by rw [List.length_append, HDN.out]; rfl
                          go_roundw
                          case rel => exact ⟨q + 1, by omega, by go_num, K9, S', sv', D', dl ++ [(za, zb)], A9, c9, HSL7.out, HHS7.out, by omega, by omega, (fun t ht => by rcases List.mem_append.1 ht with h | h; exact HDB.out t h; cases List.mem_singleton.1 h; exact ⟨hza50, hzb50⟩), by rw [hln], HR9.out⟩
                          case measure => simp [intOf]; omega
                      · have HBX : Hid (Below w7.heap.size w7 ((((((wT.setCell ⟨wr.heap.size, 0, none⟩ (.int .u64 0)).setCell ⟨wr.heap.size, 1, none⟩ (.int .u64 (za : Int))).setCell ⟨wr.heap.size, 2, none⟩ (.int .u64 (zb : Int))).setCell ⟨wr.heap.size, 3, none⟩ (.int .i64 0)).setCell ⟨wr.heap.size, 4, none⟩ (.int .i64 0)).setCell ⟨wr.heap.size, 5, none⟩ (.slice none 0 0))) := Lib.hid (chain6 (bel_trans (HBT.out.alloc HBT.out.size _).drew hbT) (b := wr.heap.size) HBT.out.size _ _ _ _ _ _)
                        have HNX : Hid (Blk ((((((wT.setCell ⟨wr.heap.size, 0, none⟩ (.int .u64 0)).setCell ⟨wr.heap.size, 1, none⟩ (.int .u64 (za : Int))).setCell ⟨wr.heap.size, 2, none⟩ (.int .u64 (zb : Int))).setCell ⟨wr.heap.size, 3, none⟩ (.int .i64 0)).setCell ⟨wr.heap.size, 4, none⟩ (.int .i64 0)).setCell ⟨wr.heap.size, 5, none⟩ (.slice none 0 0)) wr.heap.size 71 #[.int .u64 0, .int .u64 (za : Int), .int .u64 (zb : Int), .int .i64 0, .int .i64 0, .slice none 0 0]) := Lib.hid ((((((hN.set_ 0 _).set_ 1 _).set_ 2 _).set_ 3 _).set_ 4 _).set_ 5 _)
                        clear hN hbS hbT hbT2 m0 m1 m2 m3 m4 m5 f0 f1 f2 f3 f4 f5 v0 v1
                        generalize ((((((wT.setCell ⟨wr.heap.size, 0, none⟩ (.int .u64 0)).setCell ⟨wr.heap.size, 1, none⟩ (.int .u64 (za : Int))).setCell ⟨wr.heap.size, 2, none⟩ (.int .u64 (zb : Int))).setCell ⟨wr.heap.size, 3, none⟩ (.int .i64 0)).setCell ⟨wr.heap.size, 4, none⟩ (.int .i64 0)).setCell ⟨wr.heap.size, 5, none⟩ (.slice none 0 0)) = wX at *
                        generalize wr.heap.size = G at *
                        have g0 : wX.cell? ⟨G, 0, none⟩ = some (.int .u64 0) := HNX.out.cell 0
                        have g1 : wX.cell? ⟨G, 1, none⟩ = some (.int .u64 (za : Int)) := HNX.out.cell 1
                        have g2 : wX.cell? ⟨G, 2, none⟩ = some (.int .u64 (zb : Int)) := HNX.out.cell 2
                        have g3 : wX.cell? ⟨G, 3, none⟩ = some (.int .i64 0) := HNX.out.cell 3
                        have g4 : wX.cell? ⟨G, 4, none⟩ = some (.int .i64 0) := HNX.out.cell 4
                        have g5 : wX.cell? ⟨G, 5, none⟩ = some (.slice none 0 0) := HNX.out.cell 5
                        have HRX := Lib.hid (HR7.out.below HBX.out)
                        have CD := al_dead HRX.out.al HR7.out.ok (a := za) (b := zb) (z := hz) (by omega) (by omega)
                        unfold tupV at CD
                        cases hdd : deadB 1 S' za zb hz
                        · rw [hdd] at CD
                          have CD := Lib.hid CD
                          go_wp2_with fail
                          refine CD.out.mono ?_
                          rintro e wD ⟨rfl, hbD⟩
                          have HRD := Lib.hid (HRX.out.below hbD)
                          clear hbD
                          go_wp2_with fail
                          go_roundw
                          case rel => exact ⟨q + 1, by omega, by go_num, K, S', sv', D', dl, A', c', HSL7.out, HHS7.out, by have := HDN.out; omega, by have := HDN.out; omega, HDB.out, by rw [HDN.out], HRD.out⟩
                          case measure => simp [intOf]; omega
                        · rw [hdd] at CD
                          have CD := Lib.hid CD
                          have HDD := Lib.hid hdd
                          clear hdd
                          go_wp2_with fail
                          refine CD.out.mono ?_
                          rintro e wD ⟨rfl, hbD⟩
                          have HRD := Lib.hid (HRX.out.below hbD)
                          have hot := HRD.out.ot
                          rw [HDN.out] at hot
                          have HOT := Lib.hid hot
                          have HND := Lib.hid (HNX.out.below hbD HNX.out.lt)
                          clear hbD g0 g1 g2 g3 g4 g5 hot
                          have k0 : wD.cell? ⟨G, 0, none⟩ = some (.int .u64 0) := HND.out.cell 0
                          have k1 : wD.cell? ⟨G, 1, none⟩ = some (.int .u64 (za : Int)) := HND.out.cell 1
                          have k2 : wD.cell? ⟨G, 2, none⟩ = some (.int .u64 (zb : Int)) := HND.out.cell 2
                          have k3 : wD.cell? ⟨G, 3, none⟩ = some (.int .i64 0) := HND.out.cell 3
                          have k4 : wD.cell? ⟨G, 4, none⟩ = some (.int .i64 0) := HND.out.cell 4
                          have k5 : wD.cell? ⟨G, 5, none⟩ = some (.slice none 0 0) := HND.out.cell 5
                          go_wp2_with (at_builtin; go_loud (refine wpl_app_t rfl (.tmp 124) (.tmp 126) rfl w.heap.size _ t (tups dl) rfl (HOT.out.alloc _) _ _ 1 _ rfl (lies_lit _ _ _ 6 1 rfl) (tup_one (za, zb)) (by omega) (by rw [size_alloc]; have := HRD.out.al.bel.size; omega) ?_; intro v1 w8 hown1 hg1; rw [← HDN.out] at hown1 hg1; obtain ⟨K9, A9, c9, hv1, hrs9⟩ := HRD.out.more (by have := HHS7.out; omega) (HMORE.out hz HHZ.out za zb HDD.out) hown1 hg1; rw [HDN.out] at hv1; subst hv1; have HR9 := Lib.hid hrs9; clear hrs9 hown1 hg1))
                          have hln : (dl ++ [(za, zb)]).length = t + 1 := by rw [List.length_append, HDN.out]; rfl
                          go_roundw
                          case rel => exact ⟨q + 1, by omega, by go_num, K9, S', sv', D', dl ++ [(za, zb)], A9, c9, HSL7.out, HHS7.out, by omega, by omega, (fun t ht => by rcases List.mem_append.1 ht with h | h; exact HDB.out t h; cases List.mem_singleton.1 h; exact ⟨hza50, hzb50⟩), by rw [hln], HR9.out⟩
                          case measure => simp [intOf]; omega
                    · have hq2' : ¬ (q : Int) < n2 := by omega
                      go_wp2_with fail
                      go_roundw
                      case rel => exact ⟨q + 1, by omega, by go_num, K, S', sv', D', dl, A', c', HSL7.out, HHS7.out, by have := HDN.out; omega, by have := HDN.out; omega, HDB.out, by rw [HDN.out], HRT.out⟩
                      case measure => simp [intOf]; omega
        ·
          go_wp2_with fail
          refine (al_commit HR3.out.al y).mono ?_
          rintro e w5 ⟨rfl, ha5, hk5⟩
          have HA5 := Lib.hid ha5
          have HK5 := Lib.hid hk5
          have HM5 := Lib.hid (HR3.out.hd.keep (hk5 M HR3.out.kM))
          have HKY := Lib.hid (Maps.keyOf_int_mk Try.underlying22 (wfU (x := y) (by omega)))
          clear ha5 hk5
          go_wp2_with (first | (at_delete; refine wpList_delete_own _ rfl _ _ 94 22 rfl 76 lawU Try.underlying94 heldElem M q D rfl HM5.out _ _ rfl HKY.out ?_; intro w7 hown7 hturn7; have HR7 := Lib.hid (HR3.out.end_ HA5.out HK5.out (t := 2) (by omega) hown7 hturn7); clear hown7 hturn7) | fail)
          have hS7q : (endS 1 S y 2).length ≤ q + 1 := by rw [endS_len]; omega
          have hS7 : (endS 1 S y 2).length ≤ 50 := by rw [endS_len]; omega
          generalize endS 1 S y 2 = S' at *
          generalize D.del (.int .u64 (y : Int)) = D' at *
          obtain ⟨sv', hsv'⟩ : ∃ sv', sv = sv' := ⟨_, rfl⟩
          subst hsv'
          clear HA5 HK5 HM5 HKY

          have HSL7 := Lib.hid hS7q
          have HHS7 := Lib.hid hS7
          clear hp' hd0 hx0 hy' hyy hp4 hx hd x0 x1 hlq' hS7q hS7 hSq hS50 HRS HR3
          go_loopw [14, 69] (fun v i wz => ∃ j : Nat, j ≤ 60 ∧ i = .int .u64 j ∧ ∃ A5 c5, v = .slice A5 (liveL S' j).length c5 ∧ OwnS wz w7.heap.size (.slice A5 (liveL S' j).length c5) (liveL S' j).length (svs ((liveL S' j).map sv)) ∧ Below w7.heap.size w7 wz) (fun _ i _ => 60 - (intOf i).toNat)
          case atStart => exact ⟨0, by omega, rfl, none, 0, rfl, World.ownsRow_nil _ _ _ _, Below.refl _ _⟩
          case round =>
            obtain ⟨j, hj, rfl, A5, c5, rfl, ho5, hb5⟩ := hrel
            have HO5 := Lib.hid ho5
            have HB5 := Lib.hid hb5
            have hll : (liveL S' j).length ≤ j := by unfold liveL; exact Nat.le_trans (List.length_filter_le _ _) (by rw [List.length_range]; exact Nat.le_refl _)
            clear ho5 hb5
            by_cases hlj : j < 60
            · have hlj' : (j : Int) < 60 := by omega
              have HMJ := Lib.hid (HR7.out.below HB5.out).hd
              have hls := live_succ S' j
              by_cases hst : stOf 1 S' j = 1
              · rw [if_pos hst] at hls
                have HLS := Lib.hid hls
                have HST := Lib.hid hst
                obtain ⟨L, hL⟩ : ∃ L, liveL S' j = L := ⟨_, rfl⟩
                rw [hL] at HO5 hll HLS
                rw [hL]
                obtain ⟨r, hr⟩ : ∃ r, L.length = r := ⟨_, rfl⟩
                have HLR := Lib.hid hr
                rw [hr] at HO5 hll
                rw [hr]
                obtain ⟨s, hsv⟩ : ∃ s, sv j = s := ⟨_, rfl⟩
                have HSV := Lib.hid hsv
                have hcs : s.cells = [.int .u64 (s.own : Int), .int .u64 (s.xmin : Int), .int .u64 (s.xmax : Int), .slice s.A s.n s.c] := rfl
                obtain ⟨ow, xm, xx, sA, sn, sc⟩ := s
                have hlk : ∀ (W : World), W = wr → (sv j).val = .agg #[.int .u64 (ow : Int), .int .u64 (xm : Int), .int .u64 (xx : Int), .slice sA sn sc] := fun W _ => by rw [hsv]; rfl
                have HLK := Lib.hid (hlk wr rfl)
                clear hls hst hL hr hsv hcs hlk
                go_wp2_with (first | (at_lookup; refine wpl_look_yes rfl _ _ rfl rfl rfl HMJ.out HR7.out.rep (x := j) (by omega) HST.out ?_; rw [HLK.out]) | (at_builtin; go_loud (refine wpl_app_s rfl (.tmp 79) (.tmp 81) rfl w7.heap.size _ r (svs (L.map sv)) rfl ((HO5.out.alloc _).alloc _) _ _ 1 _ rfl (lies_at _ _ _ 4 1 _ (size_alloc _ _) rfl) (sv_one ⟨ow, xm, xx, sA, sn, sc⟩) (by omega) (by rw [size_alloc, size_alloc]; have := HB5.out.size; omega) ?_; intro v1 w8 hown1 hg1; obtain ⟨A8, c8, hv1, _⟩ := Sl.of_own hown1; subst hv1; have HB8 := Lib.hid (((HB5.out.alloc HB5.out.size _).alloc (by rw [size_alloc]; have := HB5.out.size; omega) _).trans (hg1.below (by rw [size_alloc, size_alloc]; have := HB5.out.size; omega) (fun g hg => (HO5.out.lt g hg).1))); have HO8 := Lib.hid hown1; clear hown1 hg1)))
                have hl1 : (liveL S' (j + 1)).length = r + 1 := by rw [HLS.out, List.length_append, HLR.out]; rfl
                have hsv1 : svs ((liveL S' (j + 1)).map sv) = svs (L.map sv) ++ Sv.cells ⟨ow, xm, xx, sA, sn, sc⟩ := by rw [HLS.out, List.map_append, svs_app]; show _ ++ svs [sv j] = _; rw [HSV.out]; unfold svs; simp
                go_roundw
                case rel => exact ⟨j + 1, by omega, by go_num, A8, c8, by rw [hl1], by rw [hl1, hsv1]; exact HO8.out, HB8.out⟩
                case measure => simp [intOf]; omega
              · rw [if_neg hst, List.append_nil] at hls
                have HLS := Lib.hid hls
                have HST := Lib.hid hst
                clear hls hst
                go_wp2_with (first | (at_lookup; refine wpl_look_no rfl _ _ rfl rfl rfl HMJ.out HR7.out.rep (x := j) (by omega) HST.out ?_) | fail)
                go_roundw
                case rel => exact ⟨j + 1, by omega, by go_num, A5, c5, by rw [HLS.out], by rw [HLS.out]; exact HO5.out.alloc _, HB5.out.alloc HB5.out.size _⟩
                case measure => simp [intOf]; omega
            · obtain rfl : j = 60 := by omega
              obtain ⟨A5', c5', e5, hs5⟩ := Sl.of_own HO5.out
              injection e5 with e51 _ e52
              subst e51 e52
              have CH := al_horizon (HR7.out.below HB5.out).al (l := (liveL S' 60).map sv) (n := (liveL S' 60).length) (by rw [List.length_map]) hs5
              have hmm2 : ((liveL S' 60).map sv).map Sv.xmin = (liveL S' 60).map fun x => (sv x).xmin := by rw [List.map_map]; rfl
              rw [hmm2] at CH
              have hstill := fun t => HR7.out.inv.still (t := t)
              have HMORE : Hid (∀ (hz : Nat), hzOf (1 + S'.length) ((liveL S' 60).map fun x => (sv x).xmin) = hz → ∀ a b, deadB 1 S' a b hz = true → deadB 1 S' a b (hzOf (1 + S'.length) ((liveL S' 60).map fun x => (sv x).xmin)) = true) := Lib.hid (fun hz h a b hd => by rw [h]; exact hd)
              obtain ⟨hz, hhz⟩ : ∃ hz, hzOf (1 + S'.length) ((liveL S' 60).map fun x => (sv x).xmin) = hz := ⟨_, rfl⟩
              have HHZ := Lib.hid hhz
              have HSTILL : Hid (∀ t, t ∈ dl → deadB 1 S' t.1 t.2 hz = true) := Lib.hid fun t ht => by rw [← hhz]; exact hstill t ht
              rw [hhz] at CH
              have CH := Lib.hid CH
              generalize (liveL S' 60).length = ll at *
              clear hs5 hmm2 hstill hhz hj hlj
              go_wp2_with fail
              refine CH.out.mono ?_
              rintro e w9 ⟨rfl, hb9⟩
              have HB9 := Lib.hid (HB5.out.trans (hb9.mono HB5.out.size))
              clear hb9
              obtain ⟨A6', c6', e6, hs6⟩ := Sl.of_own HR7.out.ot
              injection e6 with e61 _ e62
              subst e61 e62
              have HDS := Lib.hid hs6
              have hdcap := hs6.cap
              have hdle := hs6.le
              unfold maxLen at hdcap
              obtain ⟨dn, hdn⟩ : ∃ dn, dl.length = dn := ⟨_, rfl⟩
              have HDN := Lib.hid hdn
              rw [hdn] at HDS hdle hdq hd50 hdl49
              rw [hdn]
              clear hs6 hdn
              go_wp2_with fail
              go_loopw [89] (fun i wz => ∃ t : Nat, t ≤ dn ∧ i = .int .i64 t ∧ Below w7.heap.size w7 wz) (fun i _ => dn - (intOf i).toNat)
              case atStart => exact ⟨0, by omega, rfl, HB9.out⟩
              case round =>
                obtain ⟨t, ht, rfl, hbt⟩ := hrel
                have HBT := Lib.hid hbt
                clear hbt
                by_cases htd : t < dn
                · have htd' : (t : Int) < dn := by omega
                  obtain ⟨z, hz'⟩ : ∃ z, dl[t]? = some z := ⟨_, List.getElem?_eq_getElem (by rw [HDN.out]; exact htd)⟩
                  obtain ⟨ae, rfl, t0, t1, t2, t3, t4, t5⟩ := tup_cells HDS.out HBT.out hz' HDN.out
                  obtain ⟨za, zb⟩ := z
                  have HBX : Hid (Below w7.heap.size w7 (wr.alloc (.cells #[.int .u64 0, .int .u64 (za : Int), .int .u64 (zb : Int), .int .i64 0, .int .i64 0, .slice none 0 0] 71))) := Lib.hid (HBT.out.alloc HBT.out.size _)
                  have CD := al_dead (HR7.out.below HBX.out).al HR7.out.ok (a := za) (b := zb) (z := hz) (Nat.lt_trans (HDB.out _ (List.mem_of_getElem? hz')).1 (by omega)) (Nat.lt_trans (HDB.out _ (List.mem_of_getElem? hz')).2 (by omega))
                  rw [HSTILL.out (za, zb) (List.mem_of_getElem? hz')] at CD
                  unfold tupV at CD
                  have CD := Lib.hid CD
                  clear hz'
                  go_wp2_with fail
                  refine CD.out.mono ?_
                  rintro e w10 ⟨rfl, hb10⟩
                  have HB10 := Lib.hid (HBX.out.trans (hb10.mono HBX.out.size))
                  clear hb10
                  go_wp2_with fail
                  go_roundw
                  case rel => exact ⟨t + 1, by omega, by go_num, HB10.out⟩
                  case measure => simp [intOf]; omega
                · obtain rfl : t = dn := by omega
                  have HRT := Lib.hid (HR7.out.below HBT.out)
                  by_cases hq2 : q < n2
                  · have hq2' : (q : Int) < n2 := by omega
                    have hq50 : (q : Int) < 50 := by omega
                    go_wp2_with fail
                    obtain ⟨os, hos⟩ : ∃ o, l2[q]? = some o := ⟨_, List.getElem?_eq_getElem (by rw [HL2.out]; exact hq2)⟩
                    obtain ⟨av, rfl, v0, v1⟩ := st_cells HS2.out HRT.out.al.bel hos HL2.out
                    have HVC := Lib.hid fun W (h : Below w.heap.size w W) => (show W.cell? (av.add (q * 2)) = some (.int .u64 (os.a : Int)) ∧ W.cell? ⟨(av.add (q * 2)).block, (av.add (q * 2)).off + 1, none⟩ = some (.int .u64 (os.b : Int)) from by obtain ⟨av', e, x, y⟩ := st_cells HS2.out h hos HL2.out; injection e with e; subst e; exact ⟨x, y⟩)
                    obtain ⟨hva, hvb⟩ := HOK2.out os (List.mem_of_getElem? hos)
                    obtain ⟨sa, sb⟩ := os
                    have hva : sa < 18446744073709551616 := hva
                    have hvb : sb < 18446744073709551616 := hvb
                    have HB0 := Lib.hid HRT.out.al.bel
                    have HBd : Hid (Below w.heap.size w wr.drew) := Lib.hid HB0.out.drew
                    have HBa : Hid (∀ o, Below w.heap.size w (wr.alloc o).drew) := Lib.hid fun o => (HB0.out.alloc HB0.out.size o).drew
                    obtain ⟨za, hza⟩ : ∃ z : Nat, sa % 50 = z := ⟨_, rfl⟩
                    have hza' : (sa : Int) % 50 = za := by omega
                    have hza2 : (sa : Int).tmod 50 = za := by rw [Int.tmod_eq_emod_of_nonneg (by omega)]; omega
                    obtain ⟨zb, hzb⟩ : ∃ z : Nat, sb % 50 = z := ⟨_, rfl⟩
                    have hzb' : (sb : Int) % 50 = zb := by omega
                    have hzb2 : (sb : Int).tmod 50 = zb := by rw [Int.tmod_eq_emod_of_nonneg (by omega)]; omega
                    have hza50 : za < 50 := by omega
                    have hzb50 : zb < 50 := by omega
                    have hq0 : (0 : Int) ≤ q := by omega
                    have CTU := Lib.hid fun W => tuple_any W za zb
                    clear hos hza hzb
                    go_region_held3 (fun w' => w'.cell? (av.add (q * 2)) = some (.int .u64 (sa : Int)) ∧ w'.cell? ⟨(av.add (q * 2)).block, (av.add (q * 2)).off + 1, none⟩ = some (.int .u64 (sb : Int))) (first | with_reducible exact ⟨v0, v1⟩ | with_reducible exact HVC.out _ HBd.out | with_reducible exact HVC.out _ (HBa.out _) | with_reducible exact HVC.out _ hbT2 | with_reducible exact HVC.out _ (hbT2.alloc hbT2.size _) | with_reducible exact HVC.out _ (hbS _ _ _ _ _ _) ) ((go_at_call 31; refine (CTU.out _).mono ?_; rintro e wT ⟨rfl, hbT⟩; have hbT2 : Below w.heap.size w wT := (by first | with_reducible exact bel_trans HBd.out hbT | with_reducible exact bel_trans (HBa.out _) hbT); first | (have hN : Blk wT wr.heap.size 71 #[.int .u64 0, .int .u64 0, .int .u64 0, .int .i64 0, .int .i64 0, .slice none 0 0] := (by with_reducible exact fresh_below (W := wr) hbT); have hbS := chain6 hbT2 (b := wr.heap.size) HB0.out.size; have m0 : wT.cell? ⟨wr.heap.size, 0, none⟩ = some (.int .u64 0) := hN.cell 0; have m1 : wT.cell? ⟨wr.heap.size, 1, none⟩ = some (.int .u64 0) := hN.cell 1; have m2 : wT.cell? ⟨wr.heap.size, 2, none⟩ = some (.int .u64 0) := hN.cell 2; have m3 : wT.cell? ⟨wr.heap.size, 3, none⟩ = some (.int .i64 0) := hN.cell 3; have m4 : wT.cell? ⟨wr.heap.size, 4, none⟩ = some (.int .i64 0) := hN.cell 4; have m5 : wT.cell? ⟨wr.heap.size, 5, none⟩ = some (.slice none 0 0) := hN.cell 5; have f0 : wT.frozen? ⟨wr.heap.size, 0, none⟩ = false := hN.frozen 0; have f1 : wT.frozen? ⟨wr.heap.size, 1, none⟩ = false := hN.frozen 1; have f2 : wT.frozen? ⟨wr.heap.size, 2, none⟩ = false := hN.frozen 2; have f3 : wT.frozen? ⟨wr.heap.size, 3, none⟩ = false := hN.frozen 3; have f4 : wT.frozen? ⟨wr.heap.size, 4, none⟩ = false := hN.frozen 4; have f5 : wT.frozen? ⟨wr.heap.size, 5, none⟩ = false := hN.frozen 5) | (have hN := Blk.new wT 71 #[.int .u64 0, .int .u64 0, .int .u64 0, .int .i64 0, .int .i64 0, .slice none 0 0]; have m0 : (wT.alloc (.cells #[.int .u64 0, .int .u64 0, .int .u64 0, .int .i64 0, .int .i64 0, .slice none 0 0] 71)).cell? ⟨wT.heap.size, 0, none⟩ = some (.int .u64 0) := hN.cell 0; have m1 : (wT.alloc (.cells #[.int .u64 0, .int .u64 0, .int .u64 0, .int .i64 0, .int .i64 0, .slice none 0 0] 71)).cell? ⟨wT.heap.size, 1, none⟩ = some (.int .u64 0) := hN.cell 1; have m2 : (wT.alloc (.cells #[.int .u64 0, .int .u64 0, .int .u64 0, .int .i64 0, .int .i64 0, .slice none 0 0] 71)).cell? ⟨wT.heap.size, 2, none⟩ = some (.int .u64 0) := hN.cell 2; have m3 : (wT.alloc (.cells #[.int .u64 0, .int .u64 0, .int .u64 0, .int .i64 0, .int .i64 0, .slice none 0 0] 71)).cell? ⟨wT.heap.size, 3, none⟩ = some (.int .i64 0) := hN.cell 3; have m4 : (wT.alloc (.cells #[.int .u64 0, .int .u64 0, .int .u64 0, .int .i64 0, .int .i64 0, .slice none 0 0] 71)).cell? ⟨wT.heap.size, 4, none⟩ = some (.int .i64 0) := hN.cell 4; have m5 : (wT.alloc (.cells #[.int .u64 0, .int .u64 0, .int .u64 0, .int .i64 0, .int .i64 0, .slice none 0 0] 71)).cell? ⟨wT.heap.size, 5, none⟩ = some (.slice none 0 0) := hN.cell 5; have f0 : (wT.alloc (.cells #[.int .u64 0, .int .u64 0, .int .u64 0, .int .i64 0, .int .i64 0, .slice none 0 0] 71)).frozen? ⟨wT.heap.size, 0, none⟩ = false := hN.frozen 0; have f1 : (wT.alloc (.cells #[.int .u64 0, .int .u64 0, .int .u64 0, .int .i64 0, .int .i64 0, .slice none 0 0] 71)).frozen? ⟨wT.heap.size, 1, none⟩ = false := hN.frozen 1; have f2 : (wT.alloc (.cells #[.int .u64 0, .int .u64 0, .int .u64 0, .int .i64 0, .int .i64 0, .slice none 0 0] 71)).frozen? ⟨wT.heap.size, 2, none⟩ = false := hN.frozen 2; have f3 : (wT.alloc (.cells #[.int .u64 0, .int .u64 0, .int .u64 0, .int .i64 0, .int .i64 0, .slice none 0 0] 71)).frozen? ⟨wT.heap.size, 3, none⟩ = false := hN.frozen 3; have f4 : (wT.alloc (.cells #[.int .u64 0, .int .u64 0, .int .u64 0, .int .i64 0, .int .i64 0, .slice none 0 0] 71)).frozen? ⟨wT.heap.size, 4, none⟩ = false := hN.frozen 4; have f5 : (wT.alloc (.cells #[.int .u64 0, .int .u64 0, .int .u64 0, .int .i64 0, .int .i64 0, .slice none 0 0] 71)).frozen? ⟨wT.heap.size, 5, none⟩ = false := hN.frozen 5)))
                    · have HBX : Hid (Below w7.heap.size w7 (wT.alloc (.cells #[.int .u64 0, .int .u64 (za : Int), .int .u64 (zb : Int), .int .i64 0, .int .i64 0, .slice none 0 0] 71))) := Lib.hid (bel_trans (bel_trans HBT.out.drew hbT) (bel_alloc _ _))
                      have HNX : Hid (Blk (wT.alloc (.cells #[.int .u64 0, .int .u64 (za : Int), .int .u64 (zb : Int), .int .i64 0, .int .i64 0, .slice none 0 0] 71)) wT.heap.size 71 #[.int .u64 0, .int .u64 (za : Int), .int .u64 (zb : Int), .int .i64 0, .int .i64 0, .slice none 0 0]) := Lib.hid (Blk.new _ _ _)
                      clear hN hbT hbT2 m0 m1 m2 m3 m4 m5 f0 f1 f2 f3 f4 f5 v0 v1
                      generalize (wT.alloc (.cells #[.int .u64 0, .int .u64 (za : Int), .int .u64 (zb : Int), .int .i64 0, .int .i64 0, .slice none 0 0] 71)) = wX at *
                      generalize wT.heap.size = G at *
                      have g0 : wX.cell? ⟨G, 0, none⟩ = some (.int .u64 0) := HNX.out.cell 0
                      have g1 : wX.cell? ⟨G, 1, none⟩ = some (.int .u64 (za : Int)) := HNX.out.cell 1
                      have g2 : wX.cell? ⟨G, 2, none⟩ = some (.int .u64 (zb : Int)) := HNX.out.cell 2
                      have g3 : wX.cell? ⟨G, 3, none⟩ = some (.int .i64 0) := HNX.out.cell 3
                      have g4 : wX.cell? ⟨G, 4, none⟩ = some (.int .i64 0) := HNX.out.cell 4
                      have g5 : wX.cell? ⟨G, 5, none⟩ = some (.slice none 0 0) := HNX.out.cell 5
                      have HRX := Lib.hid (HR7.out.below HBX.out)
                      have CD := al_dead HRX.out.al HR7.out.ok (a := za) (b := zb) (z := hz) (by omega) (by omega)
                      unfold tupV at CD
                      cases hdd : deadB 1 S' za zb hz
                      · rw [hdd] at CD
                        have CD := Lib.hid CD
                        go_wp2_with fail
                        refine CD.out.mono ?_
                        rintro e wD ⟨rfl, hbD⟩
                        have HRD := Lib.hid (HRX.out.below hbD)
                        clear hbD
                        go_wp2_with fail
                        go_roundw
                        case rel => exact ⟨q + 1, by omega, by go_num, K, S', sv, D', dl, A', c', HSL7.out, HHS7.out, by have := HDN.out; omega, by have := HDN.out; omega, HDB.out, by rw [HDN.out], HRD.out⟩
                        case measure => simp [intOf]; omega
                      · rw [hdd] at CD
                        have CD := Lib.hid CD
                        have HDD := Lib.hid hdd
                        clear hdd
                        go_wp2_with fail
                        refine CD.out.mono ?_
                        rintro e wD ⟨rfl, hbD⟩
                        have HRD := Lib.hid (HRX.out.below hbD)
                        have hot := HRD.out.ot
                        rw [HDN.out] at hot
                        have HOT := Lib.hid hot
                        have HND := Lib.hid (HNX.out.below hbD HNX.out.lt)
                        clear hbD g0 g1 g2 g3 g4 g5 hot
                        have k0 : wD.cell? ⟨G, 0, none⟩ = some (.int .u64 0) := HND.out.cell 0
                        have k1 : wD.cell? ⟨G, 1, none⟩ = some (.int .u64 (za : Int)) := HND.out.cell 1
                        have k2 : wD.cell? ⟨G, 2, none⟩ = some (.int .u64 (zb : Int)) := HND.out.cell 2
                        have k3 : wD.cell? ⟨G, 3, none⟩ = some (.int .i64 0) := HND.out.cell 3
                        have k4 : wD.cell? ⟨G, 4, none⟩ = some (.int .i64 0) := HND.out.cell 4
                        have k5 : wD.cell? ⟨G, 5, none⟩ = some (.slice none 0 0) := HND.out.cell 5
                        go_wp2_with (at_builtin; go_loud (refine wpl_app_t rfl (.tmp 124) (.tmp 126) rfl w.heap.size _ t (tups dl) rfl (HOT.out.alloc _) _ _ 1 _ rfl (lies_lit _ _ _ 6 1 rfl) (tup_one (za, zb)) (by omega) (by rw [size_alloc]; have := HRD.out.al.bel.size; omega) ?_; intro v1 w8 hown1 hg1; rw [← HDN.out] at hown1 hg1; obtain ⟨K9, A9, c9, hv1, hrs9⟩ := HRD.out.more (by have := HHS7.out; omega) (HMORE.out hz HHZ.out za zb HDD.out) hown1 hg1; rw [HDN.out] at hv1; subst hv1; have HR9 := Lib.hid hrs9; clear hrs9 hown1 hg1))
                        have hln : (dl ++ [(za, zb)]).length = t + 1 := by rw [List.length_append, HDN.out]; rfl
                        go_roundw
                        case rel => exact ⟨q + 1, by omega, by go_num, K9, S', sv, D', dl ++ [(za, zb)], A9, c9, HSL7.out, HHS7.out, by omega, by omega, (fun t ht => by rcases List.mem_append.1 ht with h | h; exact HDB.out t h; cases List.mem_singleton.1 h; exact ⟨hza50, hzb50⟩), by rw [hln], HR9.out⟩
                        case measure => simp [intOf]; omega
                    · have HBX : Hid (Below w7.heap.size w7 ((((((wT.setCell ⟨wr.heap.size, 0, none⟩ (.int .u64 0)).setCell ⟨wr.heap.size, 1, none⟩ (.int .u64 (za : Int))).setCell ⟨wr.heap.size, 2, none⟩ (.int .u64 (zb : Int))).setCell ⟨wr.heap.size, 3, none⟩ (.int .i64 0)).setCell ⟨wr.heap.size, 4, none⟩ (.int .i64 0)).setCell ⟨wr.heap.size, 5, none⟩ (.slice none 0 0))) := Lib.hid (chain6 (bel_trans (HBT.out.alloc HBT.out.size _).drew hbT) (b := wr.heap.size) HBT.out.size _ _ _ _ _ _)
                      have HNX : Hid (Blk ((((((wT.setCell ⟨wr.heap.size, 0, none⟩ (.int .u64 0)).setCell ⟨wr.heap.size, 1, none⟩ (.int .u64 (za : Int))).setCell ⟨wr.heap.size, 2, none⟩ (.int .u64 (zb : Int))).setCell ⟨wr.heap.size, 3, none⟩ (.int .i64 0)).setCell ⟨wr.heap.size, 4, none⟩ (.int .i64 0)).setCell ⟨wr.heap.size, 5, none⟩ (.slice none 0 0)) wr.heap.size 71 #[.int .u64 0, .int .u64 (za : Int), .int .u64 (zb : Int), .int .i64 0, .int .i64 0, .slice none 0 0]) := Lib.hid ((((((hN.set_ 0 _).set_ 1 _).set_ 2 _).set_ 3 _).set_ 4 _).set_ 5 _)
                      clear hN hbS hbT hbT2 m0 m1 m2 m3 m4 m5 f0 f1 f2 f3 f4 f5 v0 v1
                      generalize ((((((wT.setCell ⟨wr.heap.size, 0, none⟩ (.int .u64 0)).setCell ⟨wr.heap.size, 1, none⟩ (.int .u64 (za : Int))).setCell ⟨wr.heap.size, 2, none⟩ (.int .u64 (zb : Int))).setCell ⟨wr.heap.size, 3, none⟩ (.int .i64 0)).setCell ⟨wr.heap.size, 4, none⟩ (.int .i64 0)).setCell ⟨wr.heap.size, 5, none⟩ (.slice none 0 0)) = wX at *
                      generalize wr.heap.size = G at *
                      have g0 : wX.cell? ⟨G, 0, none⟩ = some (.int .u64 0) := HNX.out.cell 0
                      have g1 : wX.cell? ⟨G, 1, none⟩ = some (.int .u64 (za : Int)) := HNX.out.cell 1
                      have g2 : wX.cell? ⟨G, 2, none⟩ = some (.int .u64 (zb : Int)) := HNX.out.cell 2
                      have g3 : wX.cell? ⟨G, 3, none⟩ = some (.int .i64 0) := HNX.out.cell 3
                      have g4 : wX.cell? ⟨G, 4, none⟩ = some (.int .i64 0) := HNX.out.cell 4
                      have g5 : wX.cell? ⟨G, 5, none⟩ = some (.slice none 0 0) := HNX.out.cell 5
                      have HRX := Lib.hid (HR7.out.below HBX.out)
                      have CD := al_dead HRX.out.al HR7.out.ok (a := za) (b := zb) (z := hz) (by omega) (by omega)
                      unfold tupV at CD
                      cases hdd : deadB 1 S' za zb hz
                      · rw [hdd] at CD
                        have CD := Lib.hid CD
                        go_wp2_with fail
                        refine CD.out.mono ?_
                        rintro e wD ⟨rfl, hbD⟩
                        have HRD := Lib.hid (HRX.out.below hbD)
                        clear hbD
                        go_wp2_with fail
                        go_roundw
                        case rel => exact ⟨q + 1, by omega, by go_num, K, S', sv, D', dl, A', c', HSL7.out, HHS7.out, by have := HDN.out; omega, by have := HDN.out; omega, HDB.out, by rw [HDN.out], HRD.out⟩
                        case measure => simp [intOf]; omega
                      · rw [hdd] at CD
                        have CD := Lib.hid CD
                        have HDD := Lib.hid hdd
                        clear hdd
                        go_wp2_with fail
                        refine CD.out.mono ?_
                        rintro e wD ⟨rfl, hbD⟩
                        have HRD := Lib.hid (HRX.out.below hbD)
                        have hot := HRD.out.ot
                        rw [HDN.out] at hot
                        have HOT := Lib.hid hot
                        have HND := Lib.hid (HNX.out.below hbD HNX.out.lt)
                        clear hbD g0 g1 g2 g3 g4 g5 hot
                        have k0 : wD.cell? ⟨G, 0, none⟩ = some (.int .u64 0) := HND.out.cell 0
                        have k1 : wD.cell? ⟨G, 1, none⟩ = some (.int .u64 (za : Int)) := HND.out.cell 1
                        have k2 : wD.cell? ⟨G, 2, none⟩ = some (.int .u64 (zb : Int)) := HND.out.cell 2
                        have k3 : wD.cell? ⟨G, 3, none⟩ = some (.int .i64 0) := HND.out.cell 3
                        have k4 : wD.cell? ⟨G, 4, none⟩ = some (.int .i64 0) := HND.out.cell 4
                        have k5 : wD.cell? ⟨G, 5, none⟩ = some (.slice none 0 0) := HND.out.cell 5
                        go_wp2_with (at_builtin; go_loud (refine wpl_app_t rfl (.tmp 124) (.tmp 126) rfl w.heap.size _ t (tups dl) rfl (HOT.out.alloc _) _ _ 1 _ rfl (lies_lit _ _ _ 6 1 rfl) (tup_one (za, zb)) (by omega) (by rw [size_alloc]; have := HRD.out.al.bel.size; omega) ?_; intro v1 w8 hown1 hg1; rw [← HDN.out] at hown1 hg1; obtain ⟨K9, A9, c9, hv1, hrs9⟩ := HRD.out.more (by have := HHS7.out; omega) (HMORE.out hz HHZ.out za zb HDD.out) hown1 hg1; rw [HDN.out] at hv1; subst hv1; have HR9 := Lib.hid hrs9; clear hrs9 hown1 hg1))
                        have hln : (dl ++ [(za, zb)]).length = t + 1 := by rw [List.length_append, HDN.out]; rfl
                        go_roundw
                        case rel => exact ⟨q + 1, by omega, by go_num, K9, S', sv, D', dl ++ [(za, zb)], A9, c9, HSL7.out, HHS7.out, by omega, by omega, (fun t ht => by rcases List.mem_append.1 ht with h | h; exact HDB.out t h; cases List.mem_singleton.1 h; exact ⟨hza50, hzb50⟩), by rw [hln], HR9.out⟩
                        case measure => simp [intOf]; omega
                  · have hq2' : ¬ (q : Int) < n2 := by omega
                    go_wp2_with fail
                    go_roundw
                    case rel => exact ⟨q + 1, by omega, by go_num, K, S', sv, D', dl, A', c', HSL7.out, HHS7.out, by have := HDN.out; omega, by have := HDN.out; omega, HDB.out, by rw [HDN.out], HRT.out⟩
                    case measure => simp [intOf]; omega
        ·
          go_wp2_with fail
          refine (al_abort HR3.out.al (x := y) (by omega)).mono ?_
          rintro e w5 ⟨rfl, ha5, hk5⟩
          have HA5 := Lib.hid ha5
          have HK5 := Lib.hid hk5
          have HM5 := Lib.hid (HR3.out.hd.keep (hk5 M HR3.out.kM))
          have HKY := Lib.hid (Maps.keyOf_int_mk Try.underlying22 (wfU (x := y) (by omega)))
          clear ha5 hk5
          go_wp2_with (first | (at_delete; refine wpList_delete_own _ rfl _ _ 94 22 rfl 76 lawU Try.underlying94 heldElem M q D rfl HM5.out _ _ rfl HKY.out ?_; intro w7 hown7 hturn7; have HR7 := Lib.hid (HR3.out.end_ HA5.out HK5.out (t := 3) (by omega) hown7 hturn7); clear hown7 hturn7) | fail)
          have hS7q : (endS 1 S y 3).length ≤ q + 1 := by rw [endS_len]; omega
          have hS7 : (endS 1 S y 3).length ≤ 50 := by rw [endS_len]; omega
          generalize endS 1 S y 3 = S' at *
          generalize D.del (.int .u64 (y : Int)) = D' at *
          obtain ⟨sv', hsv'⟩ : ∃ sv', sv = sv' := ⟨_, rfl⟩
          subst hsv'
          clear HA5 HK5 HM5 HKY

          have HSL7 := Lib.hid hS7q
          have HHS7 := Lib.hid hS7
          clear hp' hd0 hx0 hy' hyy hp4 hx hd x0 x1 hlq' hS7q hS7 hSq hS50 HRS HR3
          go_loopw [14, 69] (fun v i wz => ∃ j : Nat, j ≤ 60 ∧ i = .int .u64 j ∧ ∃ A5 c5, v = .slice A5 (liveL S' j).length c5 ∧ OwnS wz w7.heap.size (.slice A5 (liveL S' j).length c5) (liveL S' j).length (svs ((liveL S' j).map sv)) ∧ Below w7.heap.size w7 wz) (fun _ i _ => 60 - (intOf i).toNat)
          case atStart => exact ⟨0, by omega, rfl, none, 0, rfl, World.ownsRow_nil _ _ _ _, Below.refl _ _⟩
          case round =>
            obtain ⟨j, hj, rfl, A5, c5, rfl, ho5, hb5⟩ := hrel
            have HO5 := Lib.hid ho5
            have HB5 := Lib.hid hb5
            have hll : (liveL S' j).length ≤ j := by unfold liveL; exact Nat.le_trans (List.length_filter_le _ _) (by rw [List.length_range]; exact Nat.le_refl _)
            clear ho5 hb5
            by_cases hlj : j < 60
            · have hlj' : (j : Int) < 60 := by omega
              have HMJ := Lib.hid (HR7.out.below HB5.out).hd
              have hls := live_succ S' j
              by_cases hst : stOf 1 S' j = 1
              · rw [if_pos hst] at hls
                have HLS := Lib.hid hls
                have HST := Lib.hid hst
                obtain ⟨L, hL⟩ : ∃ L, liveL S' j = L := ⟨_, rfl⟩
                rw [hL] at HO5 hll HLS
                rw [hL]
                obtain ⟨r, hr⟩ : ∃ r, L.length = r := ⟨_, rfl⟩
                have HLR := Lib.hid hr
                rw [hr] at HO5 hll
                rw [hr]
                obtain ⟨s, hsv⟩ : ∃ s, sv j = s := ⟨_, rfl⟩
                have HSV := Lib.hid hsv
                have hcs : s.cells = [.int .u64 (s.own : Int), .int .u64 (s.xmin : Int), .int .u64 (s.xmax : Int), .slice s.A s.n s.c] := rfl
                obtain ⟨ow, xm, xx, sA, sn, sc⟩ := s
                have hlk : ∀ (W : World), W = wr → (sv j).val = .agg #[.int .u64 (ow : Int), .int .u64 (xm : Int), .int .u64 (xx : Int), .slice sA sn sc] := fun W _ => by rw [hsv]; rfl
                have HLK := Lib.hid (hlk wr rfl)
                clear hls hst hL hr hsv hcs hlk
                go_wp2_with (first | (at_lookup; refine wpl_look_yes rfl _ _ rfl rfl rfl HMJ.out HR7.out.rep (x := j) (by omega) HST.out ?_; rw [HLK.out]) | (at_builtin; go_loud (refine wpl_app_s rfl (.tmp 79) (.tmp 81) rfl w7.heap.size _ r (svs (L.map sv)) rfl ((HO5.out.alloc _).alloc _) _ _ 1 _ rfl (lies_at _ _ _ 4 1 _ (size_alloc _ _) rfl) (sv_one ⟨ow, xm, xx, sA, sn, sc⟩) (by omega) (by rw [size_alloc, size_alloc]; have := HB5.out.size; omega) ?_; intro v1 w8 hown1 hg1; obtain ⟨A8, c8, hv1, _⟩ := Sl.of_own hown1; subst hv1; have HB8 := Lib.hid (((HB5.out.alloc HB5.out.size _).alloc (by rw [size_alloc]; have := HB5.out.size; omega) _).trans (hg1.below (by rw [size_alloc, size_alloc]; have := HB5.out.size; omega) (fun g hg => (HO5.out.lt g hg).1))); have HO8 := Lib.hid hown1; clear hown1 hg1)))
                have hl1 : (liveL S' (j + 1)).length = r + 1 := by rw [HLS.out, List.length_append, HLR.out]; rfl
                have hsv1 : svs ((liveL S' (j + 1)).map sv) = svs (L.map sv) ++ Sv.cells ⟨ow, xm, xx, sA, sn, sc⟩ := by rw [HLS.out, List.map_append, svs_app]; show _ ++ svs [sv j] = _; rw [HSV.out]; unfold svs; simp
                go_roundw
                case rel => exact ⟨j + 1, by omega, by go_num, A8, c8, by rw [hl1], by rw [hl1, hsv1]; exact HO8.out, HB8.out⟩
                case measure => simp [intOf]; omega
              · rw [if_neg hst, List.append_nil] at hls
                have HLS := Lib.hid hls
                have HST := Lib.hid hst
                clear hls hst
                go_wp2_with (first | (at_lookup; refine wpl_look_no rfl _ _ rfl rfl rfl HMJ.out HR7.out.rep (x := j) (by omega) HST.out ?_) | fail)
                go_roundw
                case rel => exact ⟨j + 1, by omega, by go_num, A5, c5, by rw [HLS.out], by rw [HLS.out]; exact HO5.out.alloc _, HB5.out.alloc HB5.out.size _⟩
                case measure => simp [intOf]; omega
            · obtain rfl : j = 60 := by omega
              obtain ⟨A5', c5', e5, hs5⟩ := Sl.of_own HO5.out
              injection e5 with e51 _ e52
              subst e51 e52
              have CH := al_horizon (HR7.out.below HB5.out).al (l := (liveL S' 60).map sv) (n := (liveL S' 60).length) (by rw [List.length_map]) hs5
              have hmm2 : ((liveL S' 60).map sv).map Sv.xmin = (liveL S' 60).map fun x => (sv x).xmin := by rw [List.map_map]; rfl
              rw [hmm2] at CH
              have hstill := fun t => HR7.out.inv.still (t := t)
              have HMORE : Hid (∀ (hz : Nat), hzOf (1 + S'.length) ((liveL S' 60).map fun x => (sv x).xmin) = hz → ∀ a b, deadB 1 S' a b hz = true → deadB 1 S' a b (hzOf (1 + S'.length) ((liveL S' 60).map fun x => (sv x).xmin)) = true) := Lib.hid (fun hz h a b hd => by rw [h]; exact hd)
              obtain ⟨hz, hhz⟩ : ∃ hz, hzOf (1 + S'.length) ((liveL S' 60).map fun x => (sv x).xmin) = hz := ⟨_, rfl⟩
              have HHZ := Lib.hid hhz
              have HSTILL : Hid (∀ t, t ∈ dl → deadB 1 S' t.1 t.2 hz = true) := Lib.hid fun t ht => by rw [← hhz]; exact hstill t ht
              rw [hhz] at CH
              have CH := Lib.hid CH
              generalize (liveL S' 60).length = ll at *
              clear hs5 hmm2 hstill hhz hj hlj
              go_wp2_with fail
              refine CH.out.mono ?_
              rintro e w9 ⟨rfl, hb9⟩
              have HB9 := Lib.hid (HB5.out.trans (hb9.mono HB5.out.size))
              clear hb9
              obtain ⟨A6', c6', e6, hs6⟩ := Sl.of_own HR7.out.ot
              injection e6 with e61 _ e62
              subst e61 e62
              have HDS := Lib.hid hs6
              have hdcap := hs6.cap
              have hdle := hs6.le
              unfold maxLen at hdcap
              obtain ⟨dn, hdn⟩ : ∃ dn, dl.length = dn := ⟨_, rfl⟩
              have HDN := Lib.hid hdn
              rw [hdn] at HDS hdle hdq hd50 hdl49
              rw [hdn]
              clear hs6 hdn
              go_wp2_with fail
              go_loopw [89] (fun i wz => ∃ t : Nat, t ≤ dn ∧ i = .int .i64 t ∧ Below w7.heap.size w7 wz) (fun i _ => dn - (intOf i).toNat)
              case atStart => exact ⟨0, by omega, rfl, HB9.out⟩
              case round =>
                obtain ⟨t, ht, rfl, hbt⟩ := hrel
                have HBT := Lib.hid hbt
                clear hbt
                by_cases htd : t < dn
                · have htd' : (t : Int) < dn := by omega
                  obtain ⟨z, hz'⟩ : ∃ z, dl[t]? = some z := ⟨_, List.getElem?_eq_getElem (by rw [HDN.out]; exact htd)⟩
                  obtain ⟨ae, rfl, t0, t1, t2, t3, t4, t5⟩ := tup_cells HDS.out HBT.out hz' HDN.out
                  obtain ⟨za, zb⟩ := z
                  have HBX : Hid (Below w7.heap.size w7 (wr.alloc (.cells #[.int .u64 0, .int .u64 (za : Int), .int .u64 (zb : Int), .int .i64 0, .int .i64 0, .slice none 0 0] 71))) := Lib.hid (HBT.out.alloc HBT.out.size _)
                  have CD := al_dead (HR7.out.below HBX.out).al HR7.out.ok (a := za) (b := zb) (z := hz) (Nat.lt_trans (HDB.out _ (List.mem_of_getElem? hz')).1 (by omega)) (Nat.lt_trans (HDB.out _ (List.mem_of_getElem? hz')).2 (by omega))
                  rw [HSTILL.out (za, zb) (List.mem_of_getElem? hz')] at CD
                  unfold tupV at CD
                  have CD := Lib.hid CD
                  clear hz'
                  go_wp2_with fail
                  refine CD.out.mono ?_
                  rintro e w10 ⟨rfl, hb10⟩
                  have HB10 := Lib.hid (HBX.out.trans (hb10.mono HBX.out.size))
                  clear hb10
                  go_wp2_with fail
                  go_roundw
                  case rel => exact ⟨t + 1, by omega, by go_num, HB10.out⟩
                  case measure => simp [intOf]; omega
                · obtain rfl : t = dn := by omega
                  have HRT := Lib.hid (HR7.out.below HBT.out)
                  by_cases hq2 : q < n2
                  · have hq2' : (q : Int) < n2 := by omega
                    have hq50 : (q : Int) < 50 := by omega
                    go_wp2_with fail
                    obtain ⟨os, hos⟩ : ∃ o, l2[q]? = some o := ⟨_, List.getElem?_eq_getElem (by rw [HL2.out]; exact hq2)⟩
                    obtain ⟨av, rfl, v0, v1⟩ := st_cells HS2.out HRT.out.al.bel hos HL2.out
                    have HVC := Lib.hid fun W (h : Below w.heap.size w W) => (show W.cell? (av.add (q * 2)) = some (.int .u64 (os.a : Int)) ∧ W.cell? ⟨(av.add (q * 2)).block, (av.add (q * 2)).off + 1, none⟩ = some (.int .u64 (os.b : Int)) from by obtain ⟨av', e, x, y⟩ := st_cells HS2.out h hos HL2.out; injection e with e; subst e; exact ⟨x, y⟩)
                    obtain ⟨hva, hvb⟩ := HOK2.out os (List.mem_of_getElem? hos)
                    obtain ⟨sa, sb⟩ := os
                    have hva : sa < 18446744073709551616 := hva
                    have hvb : sb < 18446744073709551616 := hvb
                    have HB0 := Lib.hid HRT.out.al.bel
                    have HBd : Hid (Below w.heap.size w wr.drew) := Lib.hid HB0.out.drew
                    have HBa : Hid (∀ o, Below w.heap.size w (wr.alloc o).drew) := Lib.hid fun o => (HB0.out.alloc HB0.out.size o).drew
                    obtain ⟨za, hza⟩ : ∃ z : Nat, sa % 50 = z := ⟨_, rfl⟩
                    have hza' : (sa : Int) % 50 = za := by omega
                    have hza2 : (sa : Int).tmod 50 = za := by rw [Int.tmod_eq_emod_of_nonneg (by omega)]; omega
                    obtain ⟨zb, hzb⟩ : ∃ z : Nat, sb % 50 = z := ⟨_, rfl⟩
                    have hzb' : (sb : Int) % 50 = zb := by omega
                    have hzb2 : (sb : Int).tmod 50 = zb := by rw [Int.tmod_eq_emod_of_nonneg (by omega)]; omega
                    have hza50 : za < 50 := by omega
                    have hzb50 : zb < 50 := by omega
                    have hq0 : (0 : Int) ≤ q := by omega
                    have CTU := Lib.hid fun W => tuple_any W za zb
                    clear hos hza hzb
                    go_region_held3 (fun w' => w'.cell? (av.add (q * 2)) = some (.int .u64 (sa : Int)) ∧ w'.cell? ⟨(av.add (q * 2)).block, (av.add (q * 2)).off + 1, none⟩ = some (.int .u64 (sb : Int))) (first | with_reducible exact ⟨v0, v1⟩ | with_reducible exact HVC.out _ HBd.out | with_reducible exact HVC.out _ (HBa.out _) | with_reducible exact HVC.out _ hbT2 | with_reducible exact HVC.out _ (hbT2.alloc hbT2.size _) | with_reducible exact HVC.out _ (hbS _ _ _ _ _ _) ) ((go_at_call 31; refine (CTU.out _).mono ?_; rintro e wT ⟨rfl, hbT⟩; have hbT2 : Below w.heap.size w wT := (by first | with_reducible exact bel_trans HBd.out hbT | with_reducible exact bel_trans (HBa.out _) hbT); first | (have hN : Blk wT wr.heap.size 71 #[.int .u64 0, .int .u64 0, .int .u64 0, .int .i64 0, .int .i64 0, .slice none 0 0] := (by with_reducible exact fresh_below (W := wr) hbT); have hbS := chain6 hbT2 (b := wr.heap.size) HB0.out.size; have m0 : wT.cell? ⟨wr.heap.size, 0, none⟩ = some (.int .u64 0) := hN.cell 0; have m1 : wT.cell? ⟨wr.heap.size, 1, none⟩ = some (.int .u64 0) := hN.cell 1; have m2 : wT.cell? ⟨wr.heap.size, 2, none⟩ = some (.int .u64 0) := hN.cell 2; have m3 : wT.cell? ⟨wr.heap.size, 3, none⟩ = some (.int .i64 0) := hN.cell 3; have m4 : wT.cell? ⟨wr.heap.size, 4, none⟩ = some (.int .i64 0) := hN.cell 4; have m5 : wT.cell? ⟨wr.heap.size, 5, none⟩ = some (.slice none 0 0) := hN.cell 5; have f0 : wT.frozen? ⟨wr.heap.size, 0, none⟩ = false := hN.frozen 0; have f1 : wT.frozen? ⟨wr.heap.size, 1, none⟩ = false := hN.frozen 1; have f2 : wT.frozen? ⟨wr.heap.size, 2, none⟩ = false := hN.frozen 2; have f3 : wT.frozen? ⟨wr.heap.size, 3, none⟩ = false := hN.frozen 3; have f4 : wT.frozen? ⟨wr.heap.size, 4, none⟩ = false := hN.frozen 4; have f5 : wT.frozen? ⟨wr.heap.size, 5, none⟩ = false := hN.frozen 5) | (have hN := Blk.new wT 71 #[.int .u64 0, .int .u64 0, .int .u64 0, .int .i64 0, .int .i64 0, .slice none 0 0]; have m0 : (wT.alloc (.cells #[.int .u64 0, .int .u64 0, .int .u64 0, .int .i64 0, .int .i64 0, .slice none 0 0] 71)).cell? ⟨wT.heap.size, 0, none⟩ = some (.int .u64 0) := hN.cell 0; have m1 : (wT.alloc (.cells #[.int .u64 0, .int .u64 0, .int .u64 0, .int .i64 0, .int .i64 0, .slice none 0 0] 71)).cell? ⟨wT.heap.size, 1, none⟩ = some (.int .u64 0) := hN.cell 1; have m2 : (wT.alloc (.cells #[.int .u64 0, .int .u64 0, .int .u64 0, .int .i64 0, .int .i64 0, .slice none 0 0] 71)).cell? ⟨wT.heap.size, 2, none⟩ = some (.int .u64 0) := hN.cell 2; have m3 : (wT.alloc (.cells #[.int .u64 0, .int .u64 0, .int .u64 0, .int .i64 0, .int .i64 0, .slice none 0 0] 71)).cell? ⟨wT.heap.size, 3, none⟩ = some (.int .i64 0) := hN.cell 3; have m4 : (wT.alloc (.cells #[.int .u64 0, .int .u64 0, .int .u64 0, .int .i64 0, .int .i64 0, .slice none 0 0] 71)).cell? ⟨wT.heap.size, 4, none⟩ = some (.int .i64 0) := hN.cell 4; have m5 : (wT.alloc (.cells #[.int .u64 0, .int .u64 0, .int .u64 0, .int .i64 0, .int .i64 0, .slice none 0 0] 71)).cell? ⟨wT.heap.size, 5, none⟩ = some (.slice none 0 0) := hN.cell 5; have f0 : (wT.alloc (.cells #[.int .u64 0, .int .u64 0, .int .u64 0, .int .i64 0, .int .i64 0, .slice none 0 0] 71)).frozen? ⟨wT.heap.size, 0, none⟩ = false := hN.frozen 0; have f1 : (wT.alloc (.cells #[.int .u64 0, .int .u64 0, .int .u64 0, .int .i64 0, .int .i64 0, .slice none 0 0] 71)).frozen? ⟨wT.heap.size, 1, none⟩ = false := hN.frozen 1; have f2 : (wT.alloc (.cells #[.int .u64 0, .int .u64 0, .int .u64 0, .int .i64 0, .int .i64 0, .slice none 0 0] 71)).frozen? ⟨wT.heap.size, 2, none⟩ = false := hN.frozen 2; have f3 : (wT.alloc (.cells #[.int .u64 0, .int .u64 0, .int .u64 0, .int .i64 0, .int .i64 0, .slice none 0 0] 71)).frozen? ⟨wT.heap.size, 3, none⟩ = false := hN.frozen 3; have f4 : (wT.alloc (.cells #[.int .u64 0, .int .u64 0, .int .u64 0, .int .i64 0, .int .i64 0, .slice none 0 0] 71)).frozen? ⟨wT.heap.size, 4, none⟩ = false := hN.frozen 4; have f5 : (wT.alloc (.cells #[.int .u64 0, .int .u64 0, .int .u64 0, .int .i64 0, .int .i64 0, .slice none 0 0] 71)).frozen? ⟨wT.heap.size, 5, none⟩ = false := hN.frozen 5)))
                    · have HBX : Hid (Below w7.heap.size w7 (wT.alloc (.cells #[.int .u64 0, .int .u64 (za : Int), .int .u64 (zb : Int), .int .i64 0, .int .i64 0, .slice none 0 0] 71))) := Lib.hid (bel_trans (bel_trans HBT.out.drew hbT) (bel_alloc _ _))
                      have HNX : Hid (Blk (wT.alloc (.cells #[.int .u64 0, .int .u64 (za : Int), .int .u64 (zb : Int), .int .i64 0, .int .i64 0, .slice none 0 0] 71)) wT.heap.size 71 #[.int .u64 0, .int .u64 (za : Int), .int .u64 (zb : Int), .int .i64 0, .int .i64 0, .slice none 0 0]) := Lib.hid (Blk.new _ _ _)
                      clear hN hbT hbT2 m0 m1 m2 m3 m4 m5 f0 f1 f2 f3 f4 f5 v0 v1
                      generalize (wT.alloc (.cells #[.int .u64 0, .int .u64 (za : Int), .int .u64 (zb : Int), .int .i64 0, .int .i64 0, .slice none 0 0] 71)) = wX at *
                      generalize wT.heap.size = G at *
                      have g0 : wX.cell? ⟨G, 0, none⟩ = some (.int .u64 0) := HNX.out.cell 0
                      have g1 : wX.cell? ⟨G, 1, none⟩ = some (.int .u64 (za : Int)) := HNX.out.cell 1
                      have g2 : wX.cell? ⟨G, 2, none⟩ = some (.int .u64 (zb : Int)) := HNX.out.cell 2
                      have g3 : wX.cell? ⟨G, 3, none⟩ = some (.int .i64 0) := HNX.out.cell 3
                      have g4 : wX.cell? ⟨G, 4, none⟩ = some (.int .i64 0) := HNX.out.cell 4
                      have g5 : wX.cell? ⟨G, 5, none⟩ = some (.slice none 0 0) := HNX.out.cell 5
                      have HRX := Lib.hid (HR7.out.below HBX.out)
                      have CD := al_dead HRX.out.al HR7.out.ok (a := za) (b := zb) (z := hz) (by omega) (by omega)
                      unfold tupV at CD
                      cases hdd : deadB 1 S' za zb hz
                      · rw [hdd] at CD
                        have CD := Lib.hid CD
                        go_wp2_with fail
                        refine CD.out.mono ?_
                        rintro e wD ⟨rfl, hbD⟩
                        have HRD := Lib.hid (HRX.out.below hbD)
                        clear hbD
                        go_wp2_with fail
                        go_roundw
                        case rel => exact ⟨q + 1, by omega, by go_num, K, S', sv, D', dl, A', c', HSL7.out, HHS7.out, by have := HDN.out; omega, by have := HDN.out; omega, HDB.out, by rw [HDN.out], HRD.out⟩
                        case measure => simp [intOf]; omega
                      · rw [hdd] at CD
                        have CD := Lib.hid CD
                        have HDD := Lib.hid hdd
                        clear hdd
                        go_wp2_with fail
                        refine CD.out.mono ?_
                        rintro e wD ⟨rfl, hbD⟩
                        have HRD := Lib.hid (HRX.out.below hbD)
                        have hot := HRD.out.ot
                        rw [HDN.out] at hot
                        have HOT := Lib.hid hot
                        have HND := Lib.hid (HNX.out.below hbD HNX.out.lt)
                        clear hbD g0 g1 g2 g3 g4 g5 hot
                        have k0 : wD.cell? ⟨G, 0, none⟩ = some (.int .u64 0) := HND.out.cell 0
                        have k1 : wD.cell? ⟨G, 1, none⟩ = some (.int .u64 (za : Int)) := HND.out.cell 1
                        have k2 : wD.cell? ⟨G, 2, none⟩ = some (.int .u64 (zb : Int)) := HND.out.cell 2
                        have k3 : wD.cell? ⟨G, 3, none⟩ = some (.int .i64 0) := HND.out.cell 3
                        have k4 : wD.cell? ⟨G, 4, none⟩ = some (.int .i64 0) := HND.out.cell 4
                        have k5 : wD.cell? ⟨G, 5, none⟩ = some (.slice none 0 0) := HND.out.cell 5
                        go_wp2_with (at_builtin; go_loud (refine wpl_app_t rfl (.tmp 124) (.tmp 126) rfl w.heap.size _ t (tups dl) rfl (HOT.out.alloc _) _ _ 1 _ rfl (lies_lit _ _ _ 6 1 rfl) (tup_one (za, zb)) (by omega) (by rw [size_alloc]; have := HRD.out.al.bel.size; omega) ?_; intro v1 w8 hown1 hg1; rw [← HDN.out] at hown1 hg1; obtain ⟨K9, A9, c9, hv1, hrs9⟩ := HRD.out.more (by have := HHS7.out; omega) (HMORE.out hz HHZ.out za zb HDD.out) hown1 hg1; rw [HDN.out] at hv1; subst hv1; have HR9 := Lib.hid hrs9; clear hrs9 hown1 hg1))
                        have hln : (dl ++ [(za, zb)]).length = t + 1 := by rw [List.length_append, HDN.out]; rfl
                        go_roundw
                        case rel => exact ⟨q + 1, by omega, by go_num, K9, S', sv, D', dl ++ [(za, zb)], A9, c9, HSL7.out, HHS7.out, by omega, by omega, (fun t ht => by rcases List.mem_append.1 ht with h | h; exact HDB.out t h; cases List.mem_singleton.1 h; exact ⟨hza50, hzb50⟩), by rw [hln], HR9.out⟩
                        case measure => simp [intOf]; omega
                    · have HBX : Hid (Below w7.heap.size w7 ((((((wT.setCell ⟨wr.heap.size, 0, none⟩ (.int .u64 0)).setCell ⟨wr.heap.size, 1, none⟩ (.int .u64 (za : Int))).setCell ⟨wr.heap.size, 2, none⟩ (.int .u64 (zb : Int))).setCell ⟨wr.heap.size, 3, none⟩ (.int .i64 0)).setCell ⟨wr.heap.size, 4, none⟩ (.int .i64 0)).setCell ⟨wr.heap.size, 5, none⟩ (.slice none 0 0))) := Lib.hid (chain6 (bel_trans (HBT.out.alloc HBT.out.size _).drew hbT) (b := wr.heap.size) HBT.out.size _ _ _ _ _ _)
                      have HNX : Hid (Blk ((((((wT.setCell ⟨wr.heap.size, 0, none⟩ (.int .u64 0)).setCell ⟨wr.heap.size, 1, none⟩ (.int .u64 (za : Int))).setCell ⟨wr.heap.size, 2, none⟩ (.int .u64 (zb : Int))).setCell ⟨wr.heap.size, 3, none⟩ (.int .i64 0)).setCell ⟨wr.heap.size, 4, none⟩ (.int .i64 0)).setCell ⟨wr.heap.size, 5, none⟩ (.slice none 0 0)) wr.heap.size 71 #[.int .u64 0, .int .u64 (za : Int), .int .u64 (zb : Int), .int .i64 0, .int .i64 0, .slice none 0 0]) := Lib.hid ((((((hN.set_ 0 _).set_ 1 _).set_ 2 _).set_ 3 _).set_ 4 _).set_ 5 _)
                      clear hN hbS hbT hbT2 m0 m1 m2 m3 m4 m5 f0 f1 f2 f3 f4 f5 v0 v1
                      generalize ((((((wT.setCell ⟨wr.heap.size, 0, none⟩ (.int .u64 0)).setCell ⟨wr.heap.size, 1, none⟩ (.int .u64 (za : Int))).setCell ⟨wr.heap.size, 2, none⟩ (.int .u64 (zb : Int))).setCell ⟨wr.heap.size, 3, none⟩ (.int .i64 0)).setCell ⟨wr.heap.size, 4, none⟩ (.int .i64 0)).setCell ⟨wr.heap.size, 5, none⟩ (.slice none 0 0)) = wX at *
                      generalize wr.heap.size = G at *
                      have g0 : wX.cell? ⟨G, 0, none⟩ = some (.int .u64 0) := HNX.out.cell 0
                      have g1 : wX.cell? ⟨G, 1, none⟩ = some (.int .u64 (za : Int)) := HNX.out.cell 1
                      have g2 : wX.cell? ⟨G, 2, none⟩ = some (.int .u64 (zb : Int)) := HNX.out.cell 2
                      have g3 : wX.cell? ⟨G, 3, none⟩ = some (.int .i64 0) := HNX.out.cell 3
                      have g4 : wX.cell? ⟨G, 4, none⟩ = some (.int .i64 0) := HNX.out.cell 4
                      have g5 : wX.cell? ⟨G, 5, none⟩ = some (.slice none 0 0) := HNX.out.cell 5
                      have HRX := Lib.hid (HR7.out.below HBX.out)
                      have CD := al_dead HRX.out.al HR7.out.ok (a := za) (b := zb) (z := hz) (by omega) (by omega)
                      unfold tupV at CD
                      cases hdd : deadB 1 S' za zb hz
                      · rw [hdd] at CD
                        have CD := Lib.hid CD
                        go_wp2_with fail
                        refine CD.out.mono ?_
                        rintro e wD ⟨rfl, hbD⟩
                        have HRD := Lib.hid (HRX.out.below hbD)
                        clear hbD
                        go_wp2_with fail
                        go_roundw
                        case rel => exact ⟨q + 1, by omega, by go_num, K, S', sv, D', dl, A', c', HSL7.out, HHS7.out, by have := HDN.out; omega, by have := HDN.out; omega, HDB.out, by rw [HDN.out], HRD.out⟩
                        case measure => simp [intOf]; omega
                      · rw [hdd] at CD
                        have CD := Lib.hid CD
                        have HDD := Lib.hid hdd
                        clear hdd
                        go_wp2_with fail
                        refine CD.out.mono ?_
                        rintro e wD ⟨rfl, hbD⟩
                        have HRD := Lib.hid (HRX.out.below hbD)
                        have hot := HRD.out.ot
                        rw [HDN.out] at hot
                        have HOT := Lib.hid hot
                        have HND := Lib.hid (HNX.out.below hbD HNX.out.lt)
                        clear hbD g0 g1 g2 g3 g4 g5 hot
                        have k0 : wD.cell? ⟨G, 0, none⟩ = some (.int .u64 0) := HND.out.cell 0
                        have k1 : wD.cell? ⟨G, 1, none⟩ = some (.int .u64 (za : Int)) := HND.out.cell 1
                        have k2 : wD.cell? ⟨G, 2, none⟩ = some (.int .u64 (zb : Int)) := HND.out.cell 2
                        have k3 : wD.cell? ⟨G, 3, none⟩ = some (.int .i64 0) := HND.out.cell 3
                        have k4 : wD.cell? ⟨G, 4, none⟩ = some (.int .i64 0) := HND.out.cell 4
                        have k5 : wD.cell? ⟨G, 5, none⟩ = some (.slice none 0 0) := HND.out.cell 5
                        go_wp2_with (at_builtin; go_loud (refine wpl_app_t rfl (.tmp 124) (.tmp 126) rfl w.heap.size _ t (tups dl) rfl (HOT.out.alloc _) _ _ 1 _ rfl (lies_lit _ _ _ 6 1 rfl) (tup_one (za, zb)) (by omega) (by rw [size_alloc]; have := HRD.out.al.bel.size; omega) ?_; intro v1 w8 hown1 hg1; rw [← HDN.out] at hown1 hg1; obtain ⟨K9, A9, c9, hv1, hrs9⟩ := HRD.out.more (by have := HHS7.out; omega) (HMORE.out hz HHZ.out za zb HDD.out) hown1 hg1; rw [HDN.out] at hv1; subst hv1; have HR9 := Lib.hid hrs9; clear hrs9 hown1 hg1))
                        have hln : (dl ++ [(za, zb)]).length = t + 1 := by rw [List.length_append, HDN.out]; rfl
                        go_roundw
                        case rel => exact ⟨q + 1, by omega, by go_num, K9, S', sv, D', dl ++ [(za, zb)], A9, c9, HSL7.out, HHS7.out, by omega, by omega, (fun t ht => by rcases List.mem_append.1 ht with h | h; exact HDB.out t h; cases List.mem_singleton.1 h; exact ⟨hza50, hzb50⟩), by rw [hln], HR9.out⟩
                        case measure => simp [intOf]; omega
                  · have hq2' : ¬ (q : Int) < n2 := by omega
                    go_wp2_with fail
                    go_roundw
                    case rel => exact ⟨q + 1, by omega, by go_num, K, S', sv, D', dl, A', c', HSL7.out, HHS7.out, by have := HDN.out; omega, by have := HDN.out; omega, HDB.out, by rw [HDN.out], HRT.out⟩
                    case measure => simp [intOf]; omega
    · obtain rfl : q = n := by omega
      go_wp2_with fail
      go_ret
      exact ⟨rfl, HRS.out.al.bel⟩
end Go.Proofs.Ytajkedckleoboaa.Clg

