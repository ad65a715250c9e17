/- SnapDead: its walk. -/
import Derived.Test.YtaadkgcpkghgmaaSnapW
namespace Go.Proofs.Ytaadkgcpkghgmaa.Clg
open Go.ChangeMaps Go.MapKept Go.RowKit Go.Proofs.Ytaadkgcpkghgmaa.Nums Go.Proofs.Ytaadkgcpkghgmaa.Mem
set_option linter.unusedVariables false
set_option linter.unusedSimpArgs false
set_option maxRecDepth 100000
theorem cas_cells {w : World} {A : Option Addr} {n c : Nat} {l : List Sp} (h : Sl w w.heap.size 4 A n c (cas l)) {w' : World} (hb : Below w.heap.size w w') {k : Nat} {o : Sp} (ho : l[k]? = some o) (hn : l.length = n) : ∃ ad, A = some ad ∧
    w'.cell? (ad.add (k * 4)) = some (.int .u64 (o.own : Int)) ∧ w'.cell? ⟨(ad.add (k * 4)).block, (ad.add (k * 4)).off + 1, none⟩ = some (.int .u64 (o.xmin : Int)) ∧ w'.cell? ⟨(ad.add (k * 4)).block, (ad.add (k * 4)).off + 2, none⟩ = some (.int .u64 (o.xmax : Int)) ∧ w'.cell? ⟨(ad.add (k * 4)).block, (ad.add (k * 4)).off + 3, none⟩ = some (.slice o.A o.run.length o.c) := by
  have hk := (List.getElem?_eq_some_iff.1 ho).1
  obtain ⟨ad, hA, hat⟩ := h.at_ (by omega)
  have key : ∀ j y, o.ca[j]? = some y → j < 4 → w'.cell? (ad.add (k * 4 + j)) = some y := fun j y hy hj => (hat.below hb).2 (k * 4 + j) y (by rw [cas_at l k o ho j hj]; exact hy)
  have e : ∀ j y, o.ca[j + 1]? = some y → j + 1 < 4 → w'.cell? ⟨(ad.add (k * 4)).block, (ad.add (k * 4)).off + (j + 1), none⟩ = some y := fun j y hy hj => by
    rw [← off_succ]
    exact key _ _ hy hj
  exact ⟨ad, hA, key 0 _ rfl (by omega), e 0 _ rfl (by omega), e 1 _ rfl (by omega), e 2 _ rfl (by omega)⟩
theorem PS.slA {w0 w : World} {K : Nat → Prop} {PB P Q : Nat} {S : List Nat} {l : List Sp} {A B : Option Addr} {c d p : Nat} (h : PS w0 w K PB P Q S l A c B d) (hp : l.length = p) : Sl w w.heap.size 4 A p c (cas l) := by
  have h := h.oa
  rw [hp] at h
  obtain ⟨A', c', e, hs⟩ := Sl.of_own h
  injection e with e1 _ e3
  subst e1 e3
  exact hs
theorem cell_keep {w w' : World} {a : Addr} {v : Value} (hb : Below w.heap.size w w') (h : w.cell? a = some v) : w'.cell? a = some v := by rw [hb.cell (World.block_lt_of_cell? w a h)]; exact h
theorem hz_mem {nx : Nat} {lv : List Sp} {s : Sp} (h : s ∈ lv) : hzOf nx ((lv.map toSv).map Sv.xmin) ≤ s.xmin := hz_le (by rw [List.map_map]; exact List.mem_map.2 ⟨s, h, rfl⟩)
set_option maxHeartbeats 8000000 in
theorem dead_walk (w : World) (l : List O10) (A : Option Addr) (n c : Nat) (bl : List O10) (BA : Option Addr) (bn bc : Nat) (l2 : List St) (SA : Option Addr) (sn sc : Nat) (hl : l.length = n) (hs : Sl w w.heap.size 2 A n c (o10_s l)) (hok : ∀ o ∈ l, o.ok) (hbl : bl.length = bn) (hbs : Sl w w.heap.size 2 BA bn bc (o10_s bl)) (hbok : ∀ o ∈ bl, o.ok) (hl2 : l2.length = sn) (hs2 : Sl w w.heap.size 2 SA sn sc (st_s l2)) (hok2 : ∀ o ∈ l2, o.ok) :
    Calls Try.prog 5 #[.slice A n c, .slice BA bn bc, .slice SA sn sc] w fun e w' => e = .returned (.bool true) ∧ Below w.heap.size w w' := by
  have HS := Lib.hid hs
  have HL := Lib.hid hl
  have HOK := Lib.hid hok
  have HBS := Lib.hid hbs
  have HBL := Lib.hid hbl
  have HBOK := Lib.hid hbok
  have HS2 := Lib.hid hs2
  have HL2 := Lib.hid hl2
  have HOK2 := Lib.hid hok2
  have hcap := hs.cap
  have hle := hs.le
  have hbcap := hbs.cap
  have hble := hbs.le
  have hscap := hs2.cap
  have hsle := hs2.le
  unfold maxLen at hcap hbcap hscap
  clear hs hl hok hbs hbl hbok hs2 hl2 hok2
  go_enter Try.func5, Try.ntmps5
  go_wp2_with fail
  refine (awakeS_any w).mono ?_
  rintro e w1 ⟨rfl, hb1⟩
  have HB1 := Lib.hid hb1
  have CP : Hid (Calls Try.prog 13 #[.slice A n c, .int .i64 30] w1 (PlayB w1)) := Lib.hid (play_anyB w1 l A n c 30 (by omega) HL.out (Sl.on HS.out hb1) HOK.out)
  clear hb1
  go_wp2_with fail
  refine CP.out.mono ?_
  rintro e w2 ⟨K, PB, P, Q, S, sl, A1, c1, B1, d1, rfl, hps, hl40, hown⟩
  have HPS := Lib.hid hps
  have HB2 := Lib.hid (bel_trans HB1.out hps.ap.bel)
  have HOWN := Lib.hid hown
  clear hown
  obtain ⟨p, hp⟩ : ∃ p, sl.length = p := ⟨_, rfl⟩
  have HP := Lib.hid hp
  have HCA := Lib.hid (hps.slA hp)
  have hle1 := HCA.out.le
  have hcap1 := HCA.out.cap
  unfold maxLen at hcap1
  have q2 := hps.pb.cell 2
  rw [hp] at q2 hl40
  simp only [List.getElem?_toArray, List.getElem?_cons_zero, List.getElem?_cons_succ] at q2
  have HPSW : Hid (∀ W, Below w2.heap.size w2 W → PS w1 W K PB P Q S sl A1 c1 B1 d1) := Lib.hid (fun W h => HPS.out.below h)
  have HPC2 : Hid (∀ W, Below w2.heap.size w2 W → W.cell? ⟨PB, 0, none⟩ = some (.pointer (some ⟨P, 0, none⟩))) := Lib.hid (fun W h => (HPSW.out W h).pb.cell 0)
  clear hps CP hp
  go_wp2_with fail
  clear q2
  go_loopw [9, 39] (fun v i wo => ∃ t : Nat, t ≤ p ∧ i = .int .i64 t ∧ ∃ A2 c2 lv, v = .slice A2 lv.length c2 ∧ L2 w2 wo lv A2 c2 [] none 0 ∧ lv.length ≤ t ∧ ∀ s ∈ lv, s ∈ sl) (fun _ i _ => p - (intOf i).toNat)
  case atStart => exact ⟨0, by omega, rfl, none, 0, [], rfl, ⟨Below.refl _ _, World.ownsRow_nil _ _ _ _, World.ownsRow_nil _ _ _ _⟩, by simp, fun s hs => by cases hs⟩
  case round =>
    obtain ⟨t, ht, rfl, A2, c2, lv, rfl, hl2, hle2, hmem⟩ := hrel
    have HLW := Lib.hid hl2
    have HMEM := Lib.hid hmem
    have HLE := Lib.hid hle2
    clear hl2 hmem
    by_cases htp : t < p
    · have htp' : (t : Int) < p := by omega
      obtain ⟨sp, hsp⟩ : ∃ sp, sl[t]? = some sp := ⟨_, List.getElem?_eq_getElem (by rw [HP.out]; exact htp)⟩
      obtain ⟨ad3, rfl, y0, y1, y2, y3⟩ := cas_cells HCA.out HLW.out.bel hsp HP.out
      have HSPM := Lib.hid (List.mem_of_getElem? hsp)
      clear hsp
      obtain ⟨ow, xm, xx, run, RA, rc, RB, rd⟩ := sp
      obtain ⟨rn, hrn⟩ : ∃ rn, run.length = rn := ⟨_, rfl⟩
      have eca : Sp.ca ⟨ow, xm, xx, run, RA, rc, RB, rd⟩ = [.int .u64 (ow : Int), .int .u64 (xm : Int), .int .u64 (xx : Int), .slice RA rn rc] := by unfold Sp.ca; rw [hrn]
      obtain ⟨m2, hm2⟩ : ∃ m2, lv.length = m2 := ⟨_, rfl⟩
      have HM2 := Lib.hid hm2
      simp only [hrn] at y3
      rw [hm2] at hle2
      rw [hm2]
      clear hrn hm2
      go_wp2_with fail
      clear y0 y1 y2 y3
      have HL4 := Lib.hid (HLW.out.below (bel_alloc wr (.cells #[.int .u64 (ow : Int), .int .u64 (xm : Int), .int .u64 (xx : Int), .slice RA rn rc] 48)))
      have HKS : Hid (Blk (wr.alloc (.cells #[.int .u64 (ow : Int), .int .u64 (xm : Int), .int .u64 (xx : Int), .slice RA rn rc] 48)) wr.heap.size 48 #[.int .u64 (ow : Int), .int .u64 (xm : Int), .int .u64 (xx : Int), .slice RA rn rc]) := Lib.hid (Blk.new _ _ _)
      generalize (wr.alloc (.cells #[.int .u64 (ow : Int), .int .u64 (xm : Int), .int .u64 (xx : Int), .slice RA rn rc] 48)) = V at *
      generalize wr.heap.size = gS at *
      clear HLW
      have HPC : Hid (∀ W, Below V.heap.size V W → W.cell? ⟨PB, 0, none⟩ = some (.pointer (some ⟨P, 0, none⟩))) := Lib.hid (fun W h => HPC2.out W (HL4.out.bel.trans (h.mono HL4.out.bel.size)))
      have HLM2 : Hid (∀ {o : Obj} (W : World), L2 w2 W lv A2 c2 [] none 0 → OwnS (W.alloc o) w2.heap.size (.slice A2 m2 c2) m2 (cas lv)) := Lib.hid (fun W h => by have := h.own; rw [HM2.out] at this; exact OwnS.alloc this _)
      obtain ⟨st, hst⟩ : ∃ st, stOf 1 S ow = st := ⟨_, rfl⟩
      have HSTA : Hid (∀ W, Below V.heap.size V W → Calls Try.prog 28 #[.pointer (some ⟨P, 0, none⟩), .int .u64 (ow : Int)] W fun e w' => e = .returned (.int .i64 (st : Int)) ∧ Below W.heap.size W w') := Lib.hid (fun W h => by
        have hps := HPSW.out W (HL4.out.bel.trans (h.mono HL4.out.bel.size))
        have hof := (hps.sp _ HSPM.out).2
        have hk : ow < 18446744073709551616 := by have := HOWN.out _ HSPM.out; simp at this; omega
        refine (ap_state hps.ap hps.ok hk).mono ?_
        rintro e w' ⟨rfl, _, _, hb⟩
        exact ⟨by rw [hst], hb⟩)
      clear hst
      by_cases h1 : st = 1
      · have hi : ((st : Int) == 1) = true := by rw [beq_iff_eq]; omega
        have hn : (st == 1) = true := by rw [beq_iff_eq]; omega
        clear h1
        refine Reg.wp_region_inv_lit (by kernel_rfl) (by kernel_rfl) (fun D vals W => Reg.Fx (fun k9 => ([some (.pointer (some ⟨PB, 0, none⟩)), some (.pointer (some ⟨PB, 0, none⟩)), some (.pointer (some ⟨PB, 0, none⟩)), some (.pointer (some ⟨P, 0, none⟩)), some (.pointer (some ⟨gS, 0, none⟩)), some (.int .u64 (ow : Int)), some (.int .i64 (st : Int)), some (.bool true)] : List (Option Value)).getD k9 none) D vals ∧ Below V.heap.size V W) ⟨Reg.Fx.init _ _, ⟨rfl, rfl, rfl, Nat.le_refl _, fun _ _ => rfl⟩⟩ (fun Q' => ?_) ?_
        · refine Reg.Steps.cons (k' := 1) rfl ?_ ?_
          · intro D vals a W hR hd hde ev K' hK
            have HB := hR.2
            have x7 : a.tmps[7]? = some (.pointer (some ⟨PB, 0, none⟩)) := (ev.out 7 (by kernel_rfl)).trans rfl
            clear hde ev hd HB
            go_simp
            exact hK _ _ ⟨hR.1.step (.inr rfl), hR.2⟩
          refine Reg.Steps.cons (k' := 2) rfl ?_ ?_
          · intro D vals a W hR hd hde ev K' hK
            have HB := hR.2
            have d0 := Reg.dep hde 0 rfl
            have x43 : a.tmps[43]? = some (.pointer (some ⟨PB, 0, none⟩)) := ev.got hR.1 0 43 _ rfl rfl d0
            clear hde ev hd HB
            go_simp
            exact hK _ _ ⟨hR.1.step (.inr rfl), hR.2⟩
          refine Reg.Steps.cons (k' := 3) rfl ?_ ?_
          · intro D vals a W hR hd hde ev K' hK
            have HB := hR.2
            have d1 := Reg.dep hde 1 rfl
            have x44 : a.tmps[44]? = some (.pointer (some ⟨PB, 0, none⟩)) := ev.got hR.1 1 44 _ rfl rfl d1
            clear hde ev hd HB
            go_simp
            exact hK _ _ ⟨hR.1.step (.inr rfl), hR.2⟩
          refine Reg.Steps.cons (k' := 4) rfl ?_ ?_
          · intro D vals a W hR hd hde ev K' hK
            have HB := hR.2
            have d2 := Reg.dep hde 2 rfl
            have x45 : a.tmps[45]? = some (.pointer (some ⟨PB, 0, none⟩)) := ev.got hR.1 2 45 _ rfl rfl d2
            have q := HPC.out W HB
            clear hde ev hd HB
            go_simp
            exact hK _ _ ⟨hR.1.step (.inr rfl), hR.2⟩
          refine Reg.Steps.cons (k' := 5) rfl ?_ ?_
          · intro D vals a W hR hd hde ev K' hK
            have HB := hR.2
            have x11 : a.tmps[11]? = some (.pointer (some ⟨gS, 0, none⟩)) := (ev.out 11 (by kernel_rfl)).trans rfl
            clear hde ev hd HB
            go_simp
            exact hK _ _ ⟨hR.1.step (.inr rfl), hR.2⟩
          refine Reg.Steps.cons (k' := 6) rfl ?_ ?_
          · intro D vals a W hR hd hde ev K' hK
            have HB := hR.2
            have d4 := Reg.dep hde 4 rfl
            have x47 : a.tmps[47]? = some (.pointer (some ⟨gS, 0, none⟩)) := ev.got hR.1 4 47 _ rfl rfl d4
            have q := (HKS.out.below HB HKS.out.lt).cell 0
            clear hde ev hd HB
            go_simp
            exact hK _ _ ⟨hR.1.step (.inr rfl), hR.2⟩
          refine Reg.Steps.cons (k' := 7) rfl ?_ ?_
          · intro D vals a W hR hd hde ev K' hK
            have HB := hR.2
            have d3 := Reg.dep hde 3 rfl
            have x46 : a.tmps[46]? = some (.pointer (some ⟨P, 0, none⟩)) := ev.got hR.1 3 46 _ rfl rfl d3
            have d5 := Reg.dep hde 5 rfl
            have x48 : a.tmps[48]? = some (.int .u64 (ow : Int)) := ev.got hR.1 5 48 _ rfl rfl d5
            have CC := Lib.hid (HSTA.out W HB)
            have HR1 := Lib.hid hR
            clear hde ev hd HB hR
            go_simp
            refine CC.out.mono ?_
            rintro e W1 ⟨rfl, hb⟩
            exact hK _ _ ⟨HR1.out.1.step (.inr rfl), HR1.out.2.trans (hb.mono HR1.out.2.size)⟩
          refine Reg.Steps.cons (k' := 8) rfl ?_ ?_
          · intro D vals a W hR hd hde ev K' hK
            have HB := hR.2
            have d6 := Reg.dep hde 6 rfl
            have x49 : a.tmps[49]? = some (.int .i64 (st : Int)) := ev.got hR.1 6 49 _ rfl rfl d6
            clear hde ev hd HB
            go_simp
            exact hK _ _ ⟨hR.1.step (.inr rfl), hR.2⟩
          exact Reg.Steps.nil
        · intro D vals W2 hD hR
          have hB2 := hR.2
          have ev7 := hR.1 7 _ rfl (hD 7 (by decide))
          clear hR hD
          simp only [Reg.fin, Act.put, List.setIfInBounds_toArray, List.set_cons_zero, List.set_cons_succ, ev7]
          clear ev7
          generalize vals 0 = z0; generalize vals 1 = z1; generalize vals 2 = z2; generalize vals 3 = z3; generalize vals 4 = z4; generalize vals 5 = z5; generalize vals 6 = z6
          clear vals
          have HLM := Lib.hid (HL4.out.below hB2)
          have HKS2 := Lib.hid (HKS.out.below hB2 HKS.out.lt)
          have ks := HKS2.out
          have q0 := ks.cell 0
          have q1 := ks.cell 1
          have q2 := ks.cell 2
          have q3 := ks.cell 3
          clear ks hB2
          go_wp2_with (first | (at_builtin; go_loud (refine wpl_app_s rfl (.tmp 51) (.tmp 53) rfl w2.heap.size _ m2 (cas lv) rfl (HLM2.out _ HLM.out) _ _ 1 _ rfl (lies_lit _ _ _ 4 1 rfl) (by intro u hu; simp at hu; rcases hu with rfl | rfl | rfl | rfl <;> rfl) (by omega) (by rw [size_alloc]; have := HLM.out.bel.size; omega) ?_; intro v1 w8 hown1 hk1; obtain ⟨A9, c9, hv9, hs9⟩ := HLM.out.snap (s := ⟨ow, xm, xx, run, RA, rc, RB, rd⟩) (by rw [HM2.out, eca]; exact hown1) (by rw [HM2.out]; exact hk1); subst hv9; have HL9 := Lib.hid hs9; clear hown1 hk1 hs9)) | fail)
          go_roundw
          case rel => exact ⟨t + 1, by omega, by go_num, A9, c9, lv ++ [⟨ow, xm, xx, run, RA, rc, RB, rd⟩], by rw [List.length_append]; rfl, HL9.out, by have := HLE.out; rw [List.length_append]; show lv.length + 1 ≤ t + 1; omega, fun s hs => by
            rcases List.mem_append.1 hs with hs | hs
            · exact HMEM.out s hs
            · cases List.mem_singleton.1 hs; exact HSPM.out⟩
          case measure => simp [intOf]; omega
      · have hi : ((st : Int) == 1) = false := by rw [beq_eq_false_iff_ne]; omega
        have hn : (st == 1) = false := by rw [beq_eq_false_iff_ne]; omega
        clear h1
        refine Reg.wp_region_inv_lit (by kernel_rfl) (by kernel_rfl) (fun D vals W => Reg.Fx (fun k9 => ([some (.pointer (some ⟨PB, 0, none⟩)), some (.pointer (some ⟨PB, 0, none⟩)), some (.pointer (some ⟨PB, 0, none⟩)), some (.pointer (some ⟨P, 0, none⟩)), some (.pointer (some ⟨gS, 0, none⟩)), some (.int .u64 (ow : Int)), some (.int .i64 (st : Int)), some (.bool false)] : List (Option Value)).getD k9 none) D vals ∧ Below V.heap.size V W) ⟨Reg.Fx.init _ _, ⟨rfl, rfl, rfl, Nat.le_refl _, fun _ _ => rfl⟩⟩ (fun Q' => ?_) ?_
        · refine Reg.Steps.cons (k' := 1) rfl ?_ ?_
          · intro D vals a W hR hd hde ev K' hK
            have HB := hR.2
            have x7 : a.tmps[7]? = some (.pointer (some ⟨PB, 0, none⟩)) := (ev.out 7 (by kernel_rfl)).trans rfl
            clear hde ev hd HB
            go_simp
            exact hK _ _ ⟨hR.1.step (.inr rfl), hR.2⟩
          refine Reg.Steps.cons (k' := 2) rfl ?_ ?_
          · intro D vals a W hR hd hde ev K' hK
            have HB := hR.2
            have d0 := Reg.dep hde 0 rfl
            have x43 : a.tmps[43]? = some (.pointer (some ⟨PB, 0, none⟩)) := ev.got hR.1 0 43 _ rfl rfl d0
            clear hde ev hd HB
            go_simp
            exact hK _ _ ⟨hR.1.step (.inr rfl), hR.2⟩
          refine Reg.Steps.cons (k' := 3) rfl ?_ ?_
          · intro D vals a W hR hd hde ev K' hK
            have HB := hR.2
            have d1 := Reg.dep hde 1 rfl
            have x44 : a.tmps[44]? = some (.pointer (some ⟨PB, 0, none⟩)) := ev.got hR.1 1 44 _ rfl rfl d1
            clear hde ev hd HB
            go_simp
            exact hK _ _ ⟨hR.1.step (.inr rfl), hR.2⟩
          refine Reg.Steps.cons (k' := 4) rfl ?_ ?_
          · intro D vals a W hR hd hde ev K' hK
            have HB := hR.2
            have d2 := Reg.dep hde 2 rfl
            have x45 : a.tmps[45]? = some (.pointer (some ⟨PB, 0, none⟩)) := ev.got hR.1 2 45 _ rfl rfl d2
            have q := HPC.out W HB
            clear hde ev hd HB
            go_simp
            exact hK _ _ ⟨hR.1.step (.inr rfl), hR.2⟩
          refine Reg.Steps.cons (k' := 5) rfl ?_ ?_
          · intro D vals a W hR hd hde ev K' hK
            have HB := hR.2
            have x11 : a.tmps[11]? = some (.pointer (some ⟨gS, 0, none⟩)) := (ev.out 11 (by kernel_rfl)).trans rfl
            clear hde ev hd HB
            go_simp
            exact hK _ _ ⟨hR.1.step (.inr rfl), hR.2⟩
          refine Reg.Steps.cons (k' := 6) rfl ?_ ?_
          · intro D vals a W hR hd hde ev K' hK
            have HB := hR.2
            have d4 := Reg.dep hde 4 rfl
            have x47 : a.tmps[47]? = some (.pointer (some ⟨gS, 0, none⟩)) := ev.got hR.1 4 47 _ rfl rfl d4
            have q := (HKS.out.below HB HKS.out.lt).cell 0
            clear hde ev hd HB
            go_simp
            exact hK _ _ ⟨hR.1.step (.inr rfl), hR.2⟩
          refine Reg.Steps.cons (k' := 7) rfl ?_ ?_
          · intro D vals a W hR hd hde ev K' hK
            have HB := hR.2
            have d3 := Reg.dep hde 3 rfl
            have x46 : a.tmps[46]? = some (.pointer (some ⟨P, 0, none⟩)) := ev.got hR.1 3 46 _ rfl rfl d3
            have d5 := Reg.dep hde 5 rfl
            have x48 : a.tmps[48]? = some (.int .u64 (ow : Int)) := ev.got hR.1 5 48 _ rfl rfl d5
            have CC := Lib.hid (HSTA.out W HB)
            have HR1 := Lib.hid hR
            clear hde ev hd HB hR
            go_simp
            refine CC.out.mono ?_
            rintro e W1 ⟨rfl, hb⟩
            exact hK _ _ ⟨HR1.out.1.step (.inr rfl), HR1.out.2.trans (hb.mono HR1.out.2.size)⟩
          refine Reg.Steps.cons (k' := 8) rfl ?_ ?_
          · intro D vals a W hR hd hde ev K' hK
            have HB := hR.2
            have d6 := Reg.dep hde 6 rfl
            have x49 : a.tmps[49]? = some (.int .i64 (st : Int)) := ev.got hR.1 6 49 _ rfl rfl d6
            clear hde ev hd HB
            go_simp
            exact hK _ _ ⟨hR.1.step (.inr rfl), hR.2⟩
          exact Reg.Steps.nil
        · intro D vals W2 hD hR
          have hB2 := hR.2
          have ev7 := hR.1 7 _ rfl (hD 7 (by decide))
          clear hR hD
          simp only [Reg.fin, Act.put, List.setIfInBounds_toArray, List.set_cons_zero, List.set_cons_succ, ev7]
          clear ev7
          generalize vals 0 = z0; generalize vals 1 = z1; generalize vals 2 = z2; generalize vals 3 = z3; generalize vals 4 = z4; generalize vals 5 = z5; generalize vals 6 = z6
          clear vals
          have HLM := Lib.hid (HL4.out.below hB2)
          clear hB2
          go_wp2_with fail
          go_roundw
          case rel => exact ⟨t + 1, by omega, by go_num, A2, c2, lv, by rw [HM2.out], HLM.out, by have := HLE.out; omega, HMEM.out⟩
          case measure => simp [intOf]; omega
    · obtain rfl : p = t := by omega
      have HPSV := Lib.hid (HPSW.out wr HLW.out.bel)
      have q0 := HPSV.out.pb.cell 0
      simp only [List.getElem?_toArray, List.getElem?_cons_zero] at q0
      obtain ⟨m2, hm2⟩ : ∃ m2, lv.length = m2 := ⟨_, rfl⟩
      have HM2 := Lib.hid hm2
      obtain ⟨hz, hhz⟩ : ∃ hz, hzOf (1 + S.length) ((lv.map toSv).map Sv.xmin) = hz := ⟨_, rfl⟩
      have HHZ := Lib.hid hhz
      have CHZ : Hid (Calls Try.prog 14 #[.pointer (some ⟨P, 0, none⟩), .slice A2 m2 c2] wr fun e w' => e = .returned (.int .u64 (hz : Int)) ∧ Below wr.heap.size wr w') := Lib.hid (by
        obtain ⟨F, hal⟩ := HPSV.out.ap.al
        have h := HLW.out.own
        rw [hm2] at h
        obtain ⟨A', c', e, hs⟩ := Sl.of_own h
        injection e with e1 _ e3
        subst e1 e3
        have := horizon_any hal (l := lv.map toSv) (A := A2) (n := m2) (c := c2) ((List.length_map toSv).trans hm2) (by rw [svs_cas]; exact hs)
        rw [hhz] at this
        exact this)
      rw [hm2]
      clear hm2 hhz htp
      go_wp2_with fail
      refine CHZ.out.mono ?_
      rintro e w3 ⟨rfl, hb3⟩
      have HL3 := Lib.hid (HLW.out.below hb3)
      clear hb3 q0 CHZ
      go_wp2_with fail
      go_loopw [13, 64] (fun v i wo => ∃ q : Nat, q ≤ sn ∧ i = .int .i64 q ∧ ∃ A3 c3 dl, v = .slice A3 dl.length c3 ∧ L2 w2 wo lv A2 c2 dl A3 c3 ∧ (∀ t ∈ dl, t.1 < 40 ∧ t.2 < 40) ∧ (∀ t ∈ dl, deadB 1 S t.1 t.2 hz = true) ∧ dl.length ≤ 20 ∧ dl.length ≤ q) (fun _ i _ => sn - (intOf i).toNat)
      case atStart => exact ⟨0, by omega, rfl, none, 0, [], rfl, HL3.out, (fun t ht => by cases ht), (fun t ht => by cases ht), by simp, by simp⟩
      case round =>
        obtain ⟨q, hq, rfl, A3, c3, dl, rfl, hl2, hdl, hdh, hd20, hdq⟩ := hrel
        have HLW3 := Lib.hid hl2
        have HDL := Lib.hid hdl
        have HDH := Lib.hid hdh
        obtain ⟨m3, hm3⟩ : ∃ m3, dl.length = m3 := ⟨_, rfl⟩
        have HM3 := Lib.hid hm3
        rw [hm3] at hd20 hdq
        clear hl2 hdl hdh HL3
        by_cases hlq : q < sn
        · have hlq' : (q : Int) < sn := by omega
          obtain ⟨o, ho⟩ : ∃ o, l2[q]? = some o := ⟨_, List.getElem?_eq_getElem (by rw [HL2.out]; exact hlq)⟩
          obtain ⟨ad, rfl, x0, x1⟩ := st_cells HS2.out (bel_trans HB2.out HLW3.out.bel) ho HL2.out
          obtain ⟨ha0, hb0⟩ := HOK2.out o (List.mem_of_getElem? ho)
          obtain ⟨a0, b0⟩ := o
          have ha0 : a0 < 18446744073709551616 := ha0
          have hb0 : b0 < 18446744073709551616 := hb0
          have ha1 : (a0 : Int) < 18446744073709551616 := by omega
          have hb1 : (b0 : Int) < 18446744073709551616 := by omega
          obtain ⟨ta, hta⟩ : ∃ ta : Nat, a0 % 40 = ta := ⟨_, rfl⟩
          obtain ⟨tb, htb⟩ : ∃ tb : Nat, b0 % 40 = tb := ⟨_, rfl⟩
          have hta' : (a0 : Int) % 40 = ta := by omega
          have htb' : (b0 : Int) % 40 = tb := by omega
          have hta2 : Int.tmod (a0 : Int) 40 = (ta : Int) := by rw [Int.tmod_eq_emod_of_nonneg (by omega)]; exact hta'
          have htb2 : Int.tmod (b0 : Int) 40 = (tb : Int) := by rw [Int.tmod_eq_emod_of_nonneg (by omega)]; exact htb'
          have HTAB : Hid (ta < 40 ∧ tb < 40) := Lib.hid (by omega)
          have CTU := Lib.hid (fun W => tuple_any W ta tb)
          rw [hm3]
          clear ho hta htb hm3
          go_wp2_with fail
          refine (CTU.out _).mono ?_
          rintro e w4 ⟨rfl, hb4⟩
          have HL4 := Lib.hid ((HLW3.out.below (bel_alloc wr _)).below hb4)
          clear hb4 x0 x1 CTU
          go_wp2_with fail
          have HL5 := Lib.hid (HL4.out.below (bel_alloc w4 (.cells #[.int .u64 0, .int .u64 (ta : Int), .int .u64 (tb : Int), .int .i64 0, .int .i64 0, .slice none 0 0] 42)))
          have HKT : Hid (Blk (w4.alloc (.cells #[.int .u64 0, .int .u64 (ta : Int), .int .u64 (tb : Int), .int .i64 0, .int .i64 0, .slice none 0 0] 42)) w4.heap.size 42 #[.int .u64 0, .int .u64 (ta : Int), .int .u64 (tb : Int), .int .i64 0, .int .i64 0, .slice none 0 0]) := Lib.hid (Blk.new _ _ _)
          generalize (w4.alloc (.cells #[.int .u64 0, .int .u64 (ta : Int), .int .u64 (tb : Int), .int .i64 0, .int .i64 0, .slice none 0 0] 42)) = V at *
          generalize w4.heap.size = gT at *
          have HPC : Hid (∀ W, Below V.heap.size V W → W.cell? ⟨PB, 0, none⟩ = some (.pointer (some ⟨P, 0, none⟩))) := Lib.hid (fun W h => HPC2.out W (HL5.out.bel.trans (h.mono HL5.out.bel.size)))
          have HLM3 : Hid (∀ {o : Obj} (W : World), L2 w2 W lv A2 c2 dl A3 c3 → OwnT (W.alloc o) w2.heap.size (.slice A3 m3 c3) m3 (tups dl)) := Lib.hid (fun W h => by have := h.dead; rw [HM3.out] at this; exact OwnT.alloc this _)
          obtain ⟨dd, hdd⟩ : ∃ dd, deadB 1 S ta tb hz = dd := ⟨_, rfl⟩
          have HDEA : Hid (∀ W, Below V.heap.size V W → Calls Try.prog 17 #[.pointer (some ⟨P, 0, none⟩), .agg #[.int .u64 0, .int .u64 (ta : Int), .int .u64 (tb : Int), .int .i64 0, .int .i64 0, .slice none 0 0], .int .u64 (hz : Int)] W fun e w' => e = .returned (.bool dd) ∧ Below W.heap.size W w') := Lib.hid (fun W h => by
            have hps := HPSW.out W (HL5.out.bel.trans (h.mono HL5.out.bel.size))
            obtain ⟨F, hal⟩ := hps.ap.al
            have := dead_any hal hps.ok (a := ta) (b := tb) (z := hz) (by have := HTAB.out; omega) (by have := HTAB.out; omega)
            rw [hdd] at this
            exact this)
          have HDD := Lib.hid hdd
          clear hdd ha1 hb1 hta' htb' hta2 htb2
          by_cases h20 : q < 20
          · have h20' : (q : Int) < 20 := by omega
            have h20n : decide (q < 20) = true := by rw [decide_eq_true_eq]; exact h20
            have hm20 : m3 < 20 := by omega
            refine Reg.wp_region_inv_lit (by kernel_rfl) (by kernel_rfl) (fun D vals W => Reg.Fx (fun k9 => ([some (.int .i64 (q : Int)), some (.bool true), some (.bool true), some (.pointer (some ⟨PB, 0, none⟩)), some (.pointer (some ⟨PB, 0, none⟩)), some (.pointer (some ⟨PB, 0, none⟩)), some (.pointer (some ⟨P, 0, none⟩)), some (.agg #[.int .u64 0, .int .u64 (ta : Int), .int .u64 (tb : Int), .int .i64 0, .int .i64 0, .slice none 0 0]), some (.int .u64 (hz : Int)), some (.bool dd), some (.bool dd)] : List (Option Value)).getD k9 none) D vals ∧ Below V.heap.size V W) ⟨Reg.Fx.init _ _, ⟨rfl, rfl, rfl, Nat.le_refl _, fun _ _ => rfl⟩⟩ (fun Q' => ?_) ?_
            · refine Reg.Steps.cons (k' := 1) rfl ?_ ?_
              · intro D vals a W hR hd hde ev K' hK
                have HB := hR.2
                have x14 : a.tmps[14]? = some (.int .i64 (q : Int)) := (ev.out 14 (by kernel_rfl)).trans rfl
                clear hde ev hd HB
                go_simp
                exact hK _ _ ⟨hR.1.step (.inr rfl), hR.2⟩
              refine Reg.Steps.cons (k' := 2) rfl ?_ ?_
              · intro D vals a W hR hd hde ev K' hK
                have HB := hR.2
                have d0 := Reg.dep hde 0 rfl
                have x76 : a.tmps[76]? = some (.int .i64 (q : Int)) := ev.got hR.1 0 76 _ rfl rfl d0
                clear hde ev hd HB
                go_simp
                exact hK _ _ ⟨hR.1.step (.inr rfl), hR.2⟩
              refine Reg.Steps.cons (k' := 3) rfl ?_ ?_
              · intro D vals a W hR hd hde ev K' hK
                have HB := hR.2
                have d1 := Reg.dep hde 1 rfl
                have x77 : a.tmps[77]? = some (.bool true) := ev.got hR.1 1 77 _ rfl rfl d1
                clear hde ev hd HB
                go_simp
                exact hK _ _ ⟨hR.1.step (.inr rfl), hR.2⟩
              refine Reg.Steps.cons (k' := 4) rfl ?_ ?_
              · intro D vals a W hR hd hde ev K' hK
                have HB := hR.2
                have dg := Reg.dep hde 2 rfl
                have xg : a.tmps[78]? = some (.bool true) := ev.got hR.1 2 78 _ rfl rfl dg
                rw [if_pos (Reg.wanted_of rfl (Reg.yielded_of (t := 78) rfl xg))]
                have x7 : a.tmps[7]? = some (.pointer (some ⟨PB, 0, none⟩)) := (ev.out 7 (by kernel_rfl)).trans rfl
                clear hde ev hd HB
                go_simp
                exact hK _ _ ⟨hR.1.step (.inr rfl), hR.2⟩
              refine Reg.Steps.cons (k' := 5) rfl ?_ ?_
              · intro D vals a W hR hd hde ev K' hK
                have HB := hR.2
                have dg := Reg.dep hde 2 rfl
                have xg : a.tmps[78]? = some (.bool true) := ev.got hR.1 2 78 _ rfl rfl dg
                rw [if_pos (Reg.wanted_of rfl (Reg.yielded_of (t := 78) rfl xg))]
                have d3 := Reg.dep hde 3 rfl
                have x79 : a.tmps[79]? = some (.pointer (some ⟨PB, 0, none⟩)) := ev.got hR.1 3 79 _ rfl rfl d3
                clear hde ev hd HB
                go_simp
                exact hK _ _ ⟨hR.1.step (.inr rfl), hR.2⟩
              refine Reg.Steps.cons (k' := 6) rfl ?_ ?_
              · intro D vals a W hR hd hde ev K' hK
                have HB := hR.2
                have dg := Reg.dep hde 2 rfl
                have xg : a.tmps[78]? = some (.bool true) := ev.got hR.1 2 78 _ rfl rfl dg
                rw [if_pos (Reg.wanted_of rfl (Reg.yielded_of (t := 78) rfl xg))]
                have d4 := Reg.dep hde 4 rfl
                have x80 : a.tmps[80]? = some (.pointer (some ⟨PB, 0, none⟩)) := ev.got hR.1 4 80 _ rfl rfl d4
                clear hde ev hd HB
                go_simp
                exact hK _ _ ⟨hR.1.step (.inr rfl), hR.2⟩
              refine Reg.Steps.cons (k' := 7) rfl ?_ ?_
              · intro D vals a W hR hd hde ev K' hK
                have HB := hR.2
                have dg := Reg.dep hde 2 rfl
                have xg : a.tmps[78]? = some (.bool true) := ev.got hR.1 2 78 _ rfl rfl dg
                rw [if_pos (Reg.wanted_of rfl (Reg.yielded_of (t := 78) rfl xg))]
                have d5 := Reg.dep hde 5 rfl
                have x81 : a.tmps[81]? = some (.pointer (some ⟨PB, 0, none⟩)) := ev.got hR.1 5 81 _ rfl rfl d5
                have q := HPC.out W HB
                clear hde ev hd HB
                go_simp
                exact hK _ _ ⟨hR.1.step (.inr rfl), hR.2⟩
              refine Reg.Steps.cons (k' := 8) rfl ?_ ?_
              · intro D vals a W hR hd hde ev K' hK
                have HB := hR.2
                have dg := Reg.dep hde 2 rfl
                have xg : a.tmps[78]? = some (.bool true) := ev.got hR.1 2 78 _ rfl rfl dg
                rw [if_pos (Reg.wanted_of rfl (Reg.yielded_of (t := 78) rfl xg))]
                have x16 : a.tmps[16]? = some (.pointer (some ⟨gT, 0, none⟩)) := (ev.out 16 (by kernel_rfl)).trans rfl
                have kt := HKT.out.below HB HKT.out.lt
                have q0 := kt.cell 0
                have q1 := kt.cell 1
                have q2 := kt.cell 2
                have q3 := kt.cell 3
                have q4 := kt.cell 4
                have q5 := kt.cell 5
                clear kt
                clear hde ev hd HB
                go_simp
                exact hK _ _ ⟨hR.1.step (.inr rfl), hR.2⟩
              refine Reg.Steps.cons (k' := 9) rfl ?_ ?_
              · intro D vals a W hR hd hde ev K' hK
                have HB := hR.2
                have dg := Reg.dep hde 2 rfl
                have xg : a.tmps[78]? = some (.bool true) := ev.got hR.1 2 78 _ rfl rfl dg
                rw [if_pos (Reg.wanted_of rfl (Reg.yielded_of (t := 78) rfl xg))]
                have x12 : a.tmps[12]? = some (.int .u64 (hz : Int)) := (ev.out 12 (by kernel_rfl)).trans rfl
                clear hde ev hd HB
                go_simp
                exact hK _ _ ⟨hR.1.step (.inr rfl), hR.2⟩
              refine Reg.Steps.cons (k' := 10) rfl ?_ ?_
              · intro D vals a W hR hd hde ev K' hK
                have HB := hR.2
                have dg := Reg.dep hde 2 rfl
                have xg : a.tmps[78]? = some (.bool true) := ev.got hR.1 2 78 _ rfl rfl dg
                rw [if_pos (Reg.wanted_of rfl (Reg.yielded_of (t := 78) rfl xg))]
                have d6 := Reg.dep hde 6 rfl
                have x82 : a.tmps[82]? = some (.pointer (some ⟨P, 0, none⟩)) := ev.got hR.1 6 82 _ rfl rfl d6
                have d7 := Reg.dep hde 7 rfl
                have x83 : a.tmps[83]? = some (.agg #[.int .u64 0, .int .u64 (ta : Int), .int .u64 (tb : Int), .int .i64 0, .int .i64 0, .slice none 0 0]) := ev.got hR.1 7 83 _ rfl rfl d7
                have d8 := Reg.dep hde 8 rfl
                have x84 : a.tmps[84]? = some (.int .u64 (hz : Int)) := ev.got hR.1 8 84 _ rfl rfl d8
                have CC := Lib.hid (HDEA.out W HB)
                have HR1 := Lib.hid hR
                clear hde ev hd HB hR
                go_simp
                refine CC.out.mono ?_
                rintro e W1 ⟨rfl, hb⟩
                exact hK _ _ ⟨HR1.out.1.step (.inr rfl), HR1.out.2.trans (hb.mono HR1.out.2.size)⟩
              refine Reg.Steps.cons (k' := 11) rfl ?_ ?_
              · intro D vals a W hR hd hde ev K' hK
                have HB := hR.2
                have d2 := Reg.dep hde 2 rfl
                have x78 : a.tmps[78]? = some (.bool true) := ev.got hR.1 2 78 _ rfl rfl d2
                have d9 := Reg.dep hde 9 rfl
                have x85 : a.tmps[85]? = some (.bool dd) := ev.got hR.1 9 85 _ rfl rfl d9
                clear hde ev hd HB
                go_simp
                exact hK _ _ ⟨hR.1.step (.inr rfl), hR.2⟩
              exact Reg.Steps.nil
            · intro D vals W2 hD hR
              have hB2 := hR.2
              have ev10 := hR.1 10 _ rfl (hD 10 (by decide))
              clear hR hD
              simp only [Reg.fin, Act.put, List.setIfInBounds_toArray, List.set_cons_zero, List.set_cons_succ, ev10]
              clear ev10
              generalize vals 0 = z0; generalize vals 1 = z1; generalize vals 2 = z2; generalize vals 3 = z3; generalize vals 4 = z4; generalize vals 5 = z5; generalize vals 6 = z6; generalize vals 7 = z7; generalize vals 8 = z8; generalize vals 9 = z9
              clear vals
              have HLM := Lib.hid (HL5.out.below hB2)
              have HKT2 := Lib.hid (HKT.out.below hB2 HKT.out.lt)
              clear hB2
              cases dd
              · go_wp2_with fail
                go_roundw
                case rel => exact ⟨q + 1, by omega, by go_num, A3, c3, dl, by rw [HM3.out], HLM.out, HDL.out, HDH.out, by have := HM3.out; omega, by have := HM3.out; omega⟩
                case measure => simp [intOf]; omega
              · have kt := HKT2.out
                have q0 := kt.cell 0
                have q1 := kt.cell 1
                have q2 := kt.cell 2
                have q3 := kt.cell 3
                have q4 := kt.cell 4
                have q5 := kt.cell 5
                clear kt
                go_wp2_with (first | (at_builtin; go_loud (refine wpl_app_t rfl (.tmp 87) (.tmp 89) rfl w2.heap.size _ m3 (tups dl) rfl (HLM3.out _ HLM.out) _ _ 1 _ rfl (lies_lit _ _ _ 6 1 rfl) (tup_one (ta, tb)) (by omega) (by rw [size_alloc]; have := HLM.out.bel.size; omega) ?_; intro v1 w8 hown1 hk1; obtain ⟨A9, c9, hv9, hs9⟩ := HLM.out.tupl (t := (ta, tb)) (by rw [HM3.out]; exact hown1) (by rw [HM3.out]; exact hk1); subst hv9; have HL9 := Lib.hid hs9; clear hown1 hk1 hs9)) | fail)
                go_roundw
                case rel => exact ⟨q + 1, by omega, by go_num, A9, c9, dl ++ [(ta, tb)], by rw [List.length_append]; rfl, HL9.out, (fun t ht => by
                  rcases List.mem_append.1 ht with ht | ht
                  · exact HDL.out t ht
                  · cases List.mem_singleton.1 ht; exact HTAB.out), (fun t ht => by
                  rcases List.mem_append.1 ht with ht | ht
                  · exact HDH.out t ht
                  · cases List.mem_singleton.1 ht; exact HDD.out), by rw [List.length_append]; have := HM3.out; show dl.length + 1 ≤ 20; omega, by rw [List.length_append]; have := HM3.out; show dl.length + 1 ≤ q + 1; omega⟩
                case measure => simp [intOf]; omega
          · have h20' : ¬ (q : Int) < 20 := by omega
            have h20n : decide (q < 20) = false := by rw [decide_eq_false_iff_not]; exact h20
            clear h20
            refine Reg.wp_region_inv_lit (by kernel_rfl) (by kernel_rfl) (fun D vals W => Reg.Fx (fun k9 => ([some (.int .i64 (q : Int)), some (.bool false), some (.bool false), some (undef), some (undef), some (undef), some (undef), some (undef), some (undef), some (undef), some (.bool false)] : List (Option Value)).getD k9 none) D vals ∧ Below V.heap.size V W) ⟨Reg.Fx.init _ _, ⟨rfl, rfl, rfl, Nat.le_refl _, fun _ _ => rfl⟩⟩ (fun Q' => ?_) ?_
            · refine Reg.Steps.cons (k' := 1) rfl ?_ ?_
              · intro D vals a W hR hd hde ev K' hK
                have HB := hR.2
                have x14 : a.tmps[14]? = some (.int .i64 (q : Int)) := (ev.out 14 (by kernel_rfl)).trans rfl
                clear hde ev hd HB
                go_simp
                exact hK _ _ ⟨hR.1.step (.inr rfl), hR.2⟩
              refine Reg.Steps.cons (k' := 2) rfl ?_ ?_
              · intro D vals a W hR hd hde ev K' hK
                have HB := hR.2
                have d0 := Reg.dep hde 0 rfl
                have x76 : a.tmps[76]? = some (.int .i64 (q : Int)) := ev.got hR.1 0 76 _ rfl rfl d0
                clear hde ev hd HB
                go_simp
                exact hK _ _ ⟨hR.1.step (.inr rfl), hR.2⟩
              refine Reg.Steps.cons (k' := 3) rfl ?_ ?_
              · intro D vals a W hR hd hde ev K' hK
                have HB := hR.2
                have d1 := Reg.dep hde 1 rfl
                have x77 : a.tmps[77]? = some (.bool false) := ev.got hR.1 1 77 _ rfl rfl d1
                clear hde ev hd HB
                go_simp
                exact hK _ _ ⟨hR.1.step (.inr rfl), hR.2⟩
              refine Reg.Steps.cons (k' := 4) rfl ?_ ?_
              · intro D vals a W hR hd hde ev K' hK
                have HB := hR.2
                have dg := Reg.dep hde 2 rfl
                have xg : a.tmps[78]? = some (.bool false) := ev.got hR.1 2 78 _ rfl rfl dg
                rw [if_neg (Reg.wanted_not rfl (Reg.yielded_of (t := 78) rfl xg) (by decide))]
                exact hK _ _ ⟨hR.1.step (.inr rfl), HB⟩
              refine Reg.Steps.cons (k' := 5) rfl ?_ ?_
              · intro D vals a W hR hd hde ev K' hK
                have HB := hR.2
                have dg := Reg.dep hde 2 rfl
                have xg : a.tmps[78]? = some (.bool false) := ev.got hR.1 2 78 _ rfl rfl dg
                rw [if_neg (Reg.wanted_not rfl (Reg.yielded_of (t := 78) rfl xg) (by decide))]
                exact hK _ _ ⟨hR.1.step (.inr rfl), HB⟩
              refine Reg.Steps.cons (k' := 6) rfl ?_ ?_
              · intro D vals a W hR hd hde ev K' hK
                have HB := hR.2
                have dg := Reg.dep hde 2 rfl
                have xg : a.tmps[78]? = some (.bool false) := ev.got hR.1 2 78 _ rfl rfl dg
                rw [if_neg (Reg.wanted_not rfl (Reg.yielded_of (t := 78) rfl xg) (by decide))]
                exact hK _ _ ⟨hR.1.step (.inr rfl), HB⟩
              refine Reg.Steps.cons (k' := 7) rfl ?_ ?_
              · intro D vals a W hR hd hde ev K' hK
                have HB := hR.2
                have dg := Reg.dep hde 2 rfl
                have xg : a.tmps[78]? = some (.bool false) := ev.got hR.1 2 78 _ rfl rfl dg
                rw [if_neg (Reg.wanted_not rfl (Reg.yielded_of (t := 78) rfl xg) (by decide))]
                exact hK _ _ ⟨hR.1.step (.inr rfl), HB⟩
              refine Reg.Steps.cons (k' := 8) rfl ?_ ?_
              · intro D vals a W hR hd hde ev K' hK
                have HB := hR.2
                have dg := Reg.dep hde 2 rfl
                have xg : a.tmps[78]? = some (.bool false) := ev.got hR.1 2 78 _ rfl rfl dg
                rw [if_neg (Reg.wanted_not rfl (Reg.yielded_of (t := 78) rfl xg) (by decide))]
                exact hK _ _ ⟨hR.1.step (.inr rfl), HB⟩
              refine Reg.Steps.cons (k' := 9) rfl ?_ ?_
              · intro D vals a W hR hd hde ev K' hK
                have HB := hR.2
                have dg := Reg.dep hde 2 rfl
                have xg : a.tmps[78]? = some (.bool false) := ev.got hR.1 2 78 _ rfl rfl dg
                rw [if_neg (Reg.wanted_not rfl (Reg.yielded_of (t := 78) rfl xg) (by decide))]
                exact hK _ _ ⟨hR.1.step (.inr rfl), HB⟩
              refine Reg.Steps.cons (k' := 10) rfl ?_ ?_
              · intro D vals a W hR hd hde ev K' hK
                have HB := hR.2
                have dg := Reg.dep hde 2 rfl
                have xg : a.tmps[78]? = some (.bool false) := ev.got hR.1 2 78 _ rfl rfl dg
                rw [if_neg (Reg.wanted_not rfl (Reg.yielded_of (t := 78) rfl xg) (by decide))]
                exact hK _ _ ⟨hR.1.step (.inr rfl), HB⟩
              refine Reg.Steps.cons (k' := 11) rfl ?_ ?_
              · intro D vals a W hR hd hde ev K' hK
                have HB := hR.2
                have d2 := Reg.dep hde 2 rfl
                have x78 : a.tmps[78]? = some (.bool false) := ev.got hR.1 2 78 _ rfl rfl d2
                have d9 := Reg.dep hde 9 rfl
                have x85 : a.tmps[85]? = some (undef) := ev.got hR.1 9 85 _ rfl rfl d9
                clear hde ev hd HB
                go_simp
                exact hK _ _ ⟨hR.1.step (.inr rfl), hR.2⟩
              exact Reg.Steps.nil
            · intro D vals W2 hD hR
              have hB2 := hR.2
              have ev10 := hR.1 10 _ rfl (hD 10 (by decide))
              clear hR hD
              simp only [Reg.fin, Act.put, List.setIfInBounds_toArray, List.set_cons_zero, List.set_cons_succ, ev10]
              clear ev10
              generalize vals 0 = z0; generalize vals 1 = z1; generalize vals 2 = z2; generalize vals 3 = z3; generalize vals 4 = z4; generalize vals 5 = z5; generalize vals 6 = z6; generalize vals 7 = z7; generalize vals 8 = z8; generalize vals 9 = z9
              clear vals
              have HLM := Lib.hid (HL5.out.below hB2)
              clear hB2
              go_wp2_with fail
              go_roundw
              case rel => exact ⟨q + 1, by omega, by go_num, A3, c3, dl, by rw [HM3.out], HLM.out, HDL.out, HDH.out, by have := HM3.out; omega, by have := HM3.out; omega⟩
              case measure => simp [intOf]; omega
        · obtain rfl : sn = q := by omega
          have HNV : Hid (∀ s ∈ lv, NV S dl s) := Lib.hid (fun s hs => nv_old (HPS.out.sp s (HMEM.out s hs)).2 (h := hz) (by rw [← HHZ.out]; exact hz_mem hs) HDH.out)
          have HLS3 := Lib.hid (HLW3.out.ls HPS.out HMEM.out HNV.out)
          have hlv40 : lv.length ≤ 40 := by have := HLE.out; omega
          rw [hm3]
          clear hm3 hlq
          go_wp2_with fail
          generalize hW3 : wr = W3 at *
          clear hW3 wr
          rw [← HM2.out]
          go_loopw [9, 94] (fun v i wr => ∃ q : Nat, q ≤ bn ∧ i = .int .i64 q ∧ ∃ Kv S' lv A2 c2, v = .slice A2 lv.length c2 ∧ lv.length ≤ 40 + min q 30 ∧ LS w1 w2 wr K Kv P Q S S' lv A2 c2 dl A3 c3) (fun _ i _ => bn - (intOf i).toNat)
          case atStart => exact ⟨0, by omega, rfl, _, S, lv, A2, c2, rfl, by omega, HLS3.out⟩
          case round =>
            clear HLS3 HNV HLW3 HLW HLE HM2 hle2 HHZ hlv40
            clear HMEM
            obtain ⟨q, hq, rfl, Kv, S', lv, A2, c2, rfl, hlen, hls⟩ := hrel
            have HLV0 := Lib.hid hls
            have HLEN0 := Lib.hid hlen
            clear hls
            by_cases hlq : q < bn
            · have hlq' : (q : Int) < bn := by omega
              obtain ⟨o, ho⟩ : ∃ o, bl[q]? = some o := ⟨_, List.getElem?_eq_getElem (by rw [HBL.out]; exact hlq)⟩
              obtain ⟨ad, rfl, x0, x1⟩ := o10_cells HBS.out (bel_trans HB1.out HLV0.out.ap.bel) ho HBL.out
              obtain ⟨hd, hx⟩ := HBOK.out o (List.mem_of_getElem? ho)
              obtain ⟨d, y⟩ := o
              have hd : d < 256 := hd
              have hx : y < 18446744073709551616 := hx
              clear ho
              have HLV := Lib.hid (HLV0.out.below (bel_alloc wr (.cells #[.int .u8 (d : Int), .int .u64 (y : Int)] 62)))
              by_cases h30 : 30 ≤ q
              · have h30' : (30 : Int) ≤ q := by omega
                have HLX := HLV
                have HLS4 := Lib.hid (show LS w1 w2 (wr.alloc (.cells #[.int .u8 (d : Int), .int .u64 (y : Int)] 62)) K Kv P Q S S' lv A2 c2 dl A3 c3 from HLX.out)
                obtain ⟨m2, hm2⟩ : ∃ m2, lv.length = m2 := ⟨_, rfl⟩
                have HM2 := Lib.hid hm2
                have HCL : Hid (Sl (wr.alloc (.cells #[.int .u8 (d : Int), .int .u64 (y : Int)] 62)) ((wr.alloc (.cells #[.int .u8 (d : Int), .int .u64 (y : Int)] 62))).heap.size 4 A2 m2 c2 (cas lv)) := Lib.hid (by
                  have h := HLS4.out.own
                  rw [hm2] at h
                  obtain ⟨A', c', e, hs⟩ := Sl.of_own h
                  injection e with e1 _ e3
                  subst e1 e3
                  exact hs)
                have HCD : Hid (Sl (wr.alloc (.cells #[.int .u8 (d : Int), .int .u64 (y : Int)] 62)) ((wr.alloc (.cells #[.int .u8 (d : Int), .int .u64 (y : Int)] 62))).heap.size 6 A3 m3 c3 (tups dl)) := Lib.hid (by
                  have h := HLS4.out.dead
                  rw [HM3.out] at h
                  obtain ⟨A', c', e, hs⟩ := Sl.of_own h
                  injection e with e1 _ e3
                  subst e1 e3
                  exact hs)
                rw [hm2]
                have hle5 := HCL.out.le
                have hcap5 := HCL.out.cap
                have hle6 := HCD.out.le
                have hcap6 := HCD.out.cap
                unfold maxLen at hcap5 hcap6
                clear hm2
                go_wp2_with fail
                generalize hW4 : (wr.alloc (.cells #[.int .u8 (d : Int), .int .u64 (y : Int)] 62)) = W4 at *
                clear hW4
                have HPC4 : Hid (∀ W, Below W4.heap.size W4 W → W.cell? ⟨PB, 0, none⟩ = some (.pointer (some ⟨P, 0, none⟩))) := Lib.hid (fun W h => cell_keep h (by
                  have hb : Blk W4 PB 35 _ := (HLS4.out.k1 PB HPS.out.kPB).2.trans HPS.out.pb
                  exact hb.cell 0))
                go_loopw [146] (fun i wo => ∃ t : Nat, t ≤ m2 ∧ i = .int .i64 t ∧ Below W4.heap.size W4 wo) (fun i _ => m2 - (intOf i).toNat)
                case atStart => exact ⟨0, by omega, rfl, Below.refl _ _⟩
                case round =>
                  obtain ⟨t, ht, rfl, hbo⟩ := hrel
                  have HBO := Lib.hid hbo
                  clear hbo
                  by_cases htp : t < m2
                  · have htp' : (t : Int) < m2 := by omega
                    obtain ⟨sp, hsp⟩ : ∃ sp, lv[t]? = some sp := ⟨_, List.getElem?_eq_getElem (by rw [HM2.out]; exact htp)⟩
                    obtain ⟨gL, hgL⟩ : ∃ gL, A2 = some ⟨gL, 0, none⟩ := by
                      obtain ⟨g, cap, e, _⟩ := World.ownsRow.form HLS4.out.own (by rw [HM2.out]; omega)
                      injection e with e1
                      exact ⟨g, e1⟩
                    subst hgL
                    obtain ⟨ad3, hA3, y0, y1, y2, y3⟩ := cas_cells HCL.out HBO.out hsp HM2.out
                    injection hA3 with hA3
                    subst hA3
                    simp only [add_flat] at y0 y1 y2 y3
                    have HEL := Lib.hid (HLS4.out.el sp (List.mem_of_getElem? hsp))
                    clear hsp
                    obtain ⟨ow, xm, xx, run, RA, rc, RB, rd⟩ := sp
                    obtain ⟨rn, hrn⟩ : ∃ rn, run.length = rn := ⟨_, rfl⟩
                    have HVIS0 : Hid (∀ W, Below W4.heap.size W4 W → ∀ (a b : Nat), (a, b) ∈ dl → a ≠ ow → b ≠ ow → Calls Try.prog 21 #[.pointer (some ⟨P, 0, none⟩), .agg #[.int .u64 (ow : Int), .int .u64 (xm : Int), .int .u64 (xx : Int), .slice RA rn rc], .agg #[.int .u64 0, .int .u64 (a : Int), .int .u64 (b : Int), .int .i64 0, .int .i64 0, .slice none 0 0]] W fun e w' => e = .returned (.bool false) ∧ Below W.heap.size W w') := Lib.hid (fun W h a b hab h1 h2 => by
                      obtain ⟨F, hal⟩ := (HLS4.out.ap.below h).1.al
                      have hab2 := HDL.out (a, b) hab
                      have := visible_any hal HLS4.out.ok (own := ow) (xmin := xm) (xmax := xx) (Sl.on HEL.out.1 h) (a := a) (b := b) (by have := hab2.1; simp at this; omega) (by have := hab2.2; simp at this; omega)
                      rw [nv_vis (s := ⟨ow, xm, xx, run, RA, rc, RB, rd⟩) HEL.out.2.2 HLS4.out.lat hab h1 h2] at this
                      rw [← hrn]
                      exact this)
                    simp only [hrn] at y3
                    clear hrn HEL
                    go_wp2_with fail
                    clear y0 y1 y2 y3
                    have HB4 : Hid (Below W4.heap.size W4 (wr.alloc (.cells #[.int .u64 (ow : Int), .int .u64 (xm : Int), .int .u64 (xx : Int), .slice RA rn rc] 48))) := Lib.hid (HBO.out.alloc HBO.out.size _)
                    have HK4 : Hid (Blk (wr.alloc (.cells #[.int .u64 (ow : Int), .int .u64 (xm : Int), .int .u64 (xx : Int), .slice RA rn rc] 48)) wr.heap.size 48 #[.int .u64 (ow : Int), .int .u64 (xm : Int), .int .u64 (xx : Int), .slice RA rn rc]) := Lib.hid (Blk.new _ _ _)
                    generalize (wr.alloc (.cells #[.int .u64 (ow : Int), .int .u64 (xm : Int), .int .u64 (xx : Int), .slice RA rn rc] 48)) = W5 at *
                    generalize wr.heap.size = gS at *
                    clear HBO
                    go_loopw [152] (fun i wi => ∃ j : Nat, j ≤ m3 ∧ i = .int .i64 j ∧ Below W5.heap.size W5 wi) (fun i _ => m3 - (intOf i).toNat)
                    case atStart => exact ⟨0, by omega, rfl, Below.refl _ _⟩
                    case round =>
                      obtain ⟨j, hj, rfl, hbi⟩ := hrel
                      have HBJ := Lib.hid hbi
                      clear hbi
                      by_cases hjm : j < m3
                      · have hjm' : (j : Int) < m3 := by omega
                        obtain ⟨⟨ta, tb⟩, htj⟩ : ∃ x, dl[j]? = some x := ⟨_, List.getElem?_eq_getElem (by rw [HM3.out]; exact hjm)⟩
                        obtain ⟨gD, hgD⟩ : ∃ gD, A3 = some ⟨gD, 0, none⟩ := by
                          obtain ⟨g, cap, e, _⟩ := World.ownsRow.form HLS4.out.dead (by rw [HM3.out]; omega)
                          injection e with e1
                          exact ⟨g, e1⟩
                        subst hgD
                        obtain ⟨ad2, hA2, x0, x1, x2, x3, x4, x5⟩ := tup_cells HCD.out (HB4.out.trans (HBJ.out.mono HB4.out.size)) htj HM3.out
                        injection hA2 with hA2
                        subst hA2
                        simp only [add_flat] at x0 x1 x2 x3 x4 x5
                        have HTJ := Lib.hid (List.mem_of_getElem? htj)
                        clear htj
                        go_wp2_with fail
                        clear x0 x1 x2 x3 x4 x5
                        have HB6 : Hid (Below W5.heap.size W5 (wr.alloc (.cells #[.int .u64 0, .int .u64 (ta : Int), .int .u64 (tb : Int), .int .i64 0, .int .i64 0, .slice none 0 0] 42))) := Lib.hid (HBJ.out.alloc HBJ.out.size _)
                        have HKT : Hid (Blk (wr.alloc (.cells #[.int .u64 0, .int .u64 (ta : Int), .int .u64 (tb : Int), .int .i64 0, .int .i64 0, .slice none 0 0] 42)) wr.heap.size 42 #[.int .u64 0, .int .u64 (ta : Int), .int .u64 (tb : Int), .int .i64 0, .int .i64 0, .slice none 0 0]) := Lib.hid (Blk.new _ _ _)
                        generalize (wr.alloc (.cells #[.int .u64 0, .int .u64 (ta : Int), .int .u64 (tb : Int), .int .i64 0, .int .i64 0, .slice none 0 0] 42)) = V at *
                        generalize wr.heap.size = gT at *
                        have HKS := Lib.hid (HK4.out.below HB6.out HK4.out.lt)
                        have HB4V := Lib.hid (HB4.out.trans (HB6.out.mono HB4.out.size))
                        have HPC : Hid (∀ W, Below V.heap.size V W → W.cell? ⟨PB, 0, none⟩ = some (.pointer (some ⟨P, 0, none⟩))) := Lib.hid (fun W h => HPC4.out W (HB4V.out.trans (h.mono HB4V.out.size)))
                        by_cases h1 : ta = ow
                        · have hn1 : (ta != ow) = false := by rw [bne, beq_iff_eq.2 h1]; rfl
                          have hi1 : ((ta : Int) != (ow : Int)) = false := by rw [h1]; simp
                          have hn2 : (tb != ow) = true ∨ True := .inr trivial
                          clear h1 hn2
                          refine Reg.wp_region_inv_lit (by kernel_rfl) (by kernel_rfl) (fun D vals W => Reg.Fx (fun k9 => ([some (.pointer (some ⟨gT, 1, none⟩)), some (.int .u64 (ta : Int)), some (.pointer (some ⟨gS, 0, none⟩)), some (.int .u64 (ow : Int)), some (.bool false), some (.bool false), some (undef), some (undef), some (undef), some (undef), some (undef), some (.bool false), some (.bool false), some (undef), some (undef), some (undef), some (undef), some (undef), some (undef), some (undef), some (.bool false)] : List (Option Value)).getD k9 none) D vals ∧ Below V.heap.size V W) ⟨Reg.Fx.init _ _, ⟨rfl, rfl, rfl, Nat.le_refl _, fun _ _ => rfl⟩⟩ (fun Q' => ?_) ?_
                          · refine Reg.Steps.cons (k' := 1) rfl ?_ ?_
                            · intro D vals a W hR hd hde ev K' hK
                              have HB := hR.2
                              have x24 : a.tmps[24]? = some (.pointer (some ⟨gT, 0, none⟩)) := (ev.out 24 (by kernel_rfl)).trans rfl
                              clear hde ev hd HB
                              go_simp
                              exact hK _ _ ⟨hR.1.step (.inr rfl), hR.2⟩
                            refine Reg.Steps.cons (k' := 2) rfl ?_ ?_
                            · intro D vals a W hR hd hde ev K' hK
                              have HB := hR.2
                              have d0 := Reg.dep hde 0 rfl
                              have x156 : a.tmps[156]? = some (.pointer (some ⟨gT, 1, none⟩)) := ev.got hR.1 0 156 _ rfl rfl d0
                              have q := (HKT.out.below HB HKT.out.lt).cell 1
                              clear hde ev hd HB
                              go_simp
                              exact hK _ _ ⟨hR.1.step (.inr rfl), hR.2⟩
                            refine Reg.Steps.cons (k' := 3) rfl ?_ ?_
                            · intro D vals a W hR hd hde ev K' hK
                              have HB := hR.2
                              have x22 : a.tmps[22]? = some (.pointer (some ⟨gS, 0, none⟩)) := (ev.out 22 (by kernel_rfl)).trans rfl
                              clear hde ev hd HB
                              go_simp
                              exact hK _ _ ⟨hR.1.step (.inr rfl), hR.2⟩
                            refine Reg.Steps.cons (k' := 4) rfl ?_ ?_
                            · intro D vals a W hR hd hde ev K' hK
                              have HB := hR.2
                              have d2 := Reg.dep hde 2 rfl
                              have x158 : a.tmps[158]? = some (.pointer (some ⟨gS, 0, none⟩)) := ev.got hR.1 2 158 _ rfl rfl d2
                              have q := (HKS.out.below HB HKS.out.lt).cell 0
                              clear hde ev hd HB
                              go_simp
                              exact hK _ _ ⟨hR.1.step (.inr rfl), hR.2⟩
                            refine Reg.Steps.cons (k' := 5) rfl ?_ ?_
                            · intro D vals a W hR hd hde ev K' hK
                              have HB := hR.2
                              have d1 := Reg.dep hde 1 rfl
                              have x157 : a.tmps[157]? = some (.int .u64 (ta : Int)) := ev.got hR.1 1 157 _ rfl rfl d1
                              have d3 := Reg.dep hde 3 rfl
                              have x159 : a.tmps[159]? = some (.int .u64 (ow : Int)) := ev.got hR.1 3 159 _ rfl rfl d3
                              clear hde ev hd HB
                              go_simp
                              exact hK _ _ ⟨hR.1.step (.inr rfl), hR.2⟩
                            refine Reg.Steps.cons (k' := 6) rfl ?_ ?_
                            · intro D vals a W hR hd hde ev K' hK
                              have HB := hR.2
                              have d4 := Reg.dep hde 4 rfl
                              have x160 : a.tmps[160]? = some (.bool false) := ev.got hR.1 4 160 _ rfl rfl d4
                              clear hde ev hd HB
                              go_simp
                              exact hK _ _ ⟨hR.1.step (.inr rfl), hR.2⟩
                            refine Reg.Steps.cons (k' := 7) rfl ?_ ?_
                            · intro D vals a W hR hd hde ev K' hK
                              have HB := hR.2
                              have dg := Reg.dep hde 5 rfl
                              have xg : a.tmps[161]? = some (.bool false) := ev.got hR.1 5 161 _ rfl rfl dg
                              rw [if_neg (Reg.wanted_not rfl (Reg.yielded_of (t := 161) rfl xg) (by decide))]
                              exact hK _ _ ⟨hR.1.step (.inr rfl), HB⟩
                            refine Reg.Steps.cons (k' := 8) rfl ?_ ?_
                            · intro D vals a W hR hd hde ev K' hK
                              have HB := hR.2
                              have dg := Reg.dep hde 5 rfl
                              have xg : a.tmps[161]? = some (.bool false) := ev.got hR.1 5 161 _ rfl rfl dg
                              rw [if_neg (Reg.wanted_not rfl (Reg.yielded_of (t := 161) rfl xg) (by decide))]
                              exact hK _ _ ⟨hR.1.step (.inr rfl), HB⟩
                            refine Reg.Steps.cons (k' := 9) rfl ?_ ?_
                            · intro D vals a W hR hd hde ev K' hK
                              have HB := hR.2
                              have dg := Reg.dep hde 5 rfl
                              have xg : a.tmps[161]? = some (.bool false) := ev.got hR.1 5 161 _ rfl rfl dg
                              rw [if_neg (Reg.wanted_not rfl (Reg.yielded_of (t := 161) rfl xg) (by decide))]
                              exact hK _ _ ⟨hR.1.step (.inr rfl), HB⟩
                            refine Reg.Steps.cons (k' := 10) rfl ?_ ?_
                            · intro D vals a W hR hd hde ev K' hK
                              have HB := hR.2
                              have dg := Reg.dep hde 5 rfl
                              have xg : a.tmps[161]? = some (.bool false) := ev.got hR.1 5 161 _ rfl rfl dg
                              rw [if_neg (Reg.wanted_not rfl (Reg.yielded_of (t := 161) rfl xg) (by decide))]
                              exact hK _ _ ⟨hR.1.step (.inr rfl), HB⟩
                            refine Reg.Steps.cons (k' := 11) rfl ?_ ?_
                            · intro D vals a W hR hd hde ev K' hK
                              have HB := hR.2
                              have dg := Reg.dep hde 5 rfl
                              have xg : a.tmps[161]? = some (.bool false) := ev.got hR.1 5 161 _ rfl rfl dg
                              rw [if_neg (Reg.wanted_not rfl (Reg.yielded_of (t := 161) rfl xg) (by decide))]
                              exact hK _ _ ⟨hR.1.step (.inr rfl), HB⟩
                            refine Reg.Steps.cons (k' := 12) rfl ?_ ?_
                            · intro D vals a W hR hd hde ev K' hK
                              have HB := hR.2
                              have d5 := Reg.dep hde 5 rfl
                              have x161 : a.tmps[161]? = some (.bool false) := ev.got hR.1 5 161 _ rfl rfl d5
                              have d10 := Reg.dep hde 10 rfl
                              have x166 : a.tmps[166]? = some (undef) := ev.got hR.1 10 166 _ rfl rfl d10
                              clear hde ev hd HB
                              go_simp
                              exact hK _ _ ⟨hR.1.step (.inr rfl), hR.2⟩
                            refine Reg.Steps.cons (k' := 13) rfl ?_ ?_
                            · intro D vals a W hR hd hde ev K' hK
                              have HB := hR.2
                              have d11 := Reg.dep hde 11 rfl
                              have x167 : a.tmps[167]? = some (.bool false) := ev.got hR.1 11 167 _ rfl rfl d11
                              clear hde ev hd HB
                              go_simp
                              exact hK _ _ ⟨hR.1.step (.inr rfl), hR.2⟩
                            refine Reg.Steps.cons (k' := 14) rfl ?_ ?_
                            · intro D vals a W hR hd hde ev K' hK
                              have HB := hR.2
                              have dg := Reg.dep hde 12 rfl
                              have xg : a.tmps[168]? = some (.bool false) := ev.got hR.1 12 168 _ rfl rfl dg
                              rw [if_neg (Reg.wanted_not rfl (Reg.yielded_of (t := 168) rfl xg) (by decide))]
                              exact hK _ _ ⟨hR.1.step (.inr rfl), HB⟩
                            refine Reg.Steps.cons (k' := 15) rfl ?_ ?_
                            · intro D vals a W hR hd hde ev K' hK
                              have HB := hR.2
                              have dg := Reg.dep hde 12 rfl
                              have xg : a.tmps[168]? = some (.bool false) := ev.got hR.1 12 168 _ rfl rfl dg
                              rw [if_neg (Reg.wanted_not rfl (Reg.yielded_of (t := 168) rfl xg) (by decide))]
                              exact hK _ _ ⟨hR.1.step (.inr rfl), HB⟩
                            refine Reg.Steps.cons (k' := 16) rfl ?_ ?_
                            · intro D vals a W hR hd hde ev K' hK
                              have HB := hR.2
                              have dg := Reg.dep hde 12 rfl
                              have xg : a.tmps[168]? = some (.bool false) := ev.got hR.1 12 168 _ rfl rfl dg
                              rw [if_neg (Reg.wanted_not rfl (Reg.yielded_of (t := 168) rfl xg) (by decide))]
                              exact hK _ _ ⟨hR.1.step (.inr rfl), HB⟩
                            refine Reg.Steps.cons (k' := 17) rfl ?_ ?_
                            · intro D vals a W hR hd hde ev K' hK
                              have HB := hR.2
                              have dg := Reg.dep hde 12 rfl
                              have xg : a.tmps[168]? = some (.bool false) := ev.got hR.1 12 168 _ rfl rfl dg
                              rw [if_neg (Reg.wanted_not rfl (Reg.yielded_of (t := 168) rfl xg) (by decide))]
                              exact hK _ _ ⟨hR.1.step (.inr rfl), HB⟩
                            refine Reg.Steps.cons (k' := 18) rfl ?_ ?_
                            · intro D vals a W hR hd hde ev K' hK
                              have HB := hR.2
                              have dg := Reg.dep hde 12 rfl
                              have xg : a.tmps[168]? = some (.bool false) := ev.got hR.1 12 168 _ rfl rfl dg
                              rw [if_neg (Reg.wanted_not rfl (Reg.yielded_of (t := 168) rfl xg) (by decide))]
                              exact hK _ _ ⟨hR.1.step (.inr rfl), HB⟩
                            refine Reg.Steps.cons (k' := 19) rfl ?_ ?_
                            · intro D vals a W hR hd hde ev K' hK
                              have HB := hR.2
                              have dg := Reg.dep hde 12 rfl
                              have xg : a.tmps[168]? = some (.bool false) := ev.got hR.1 12 168 _ rfl rfl dg
                              rw [if_neg (Reg.wanted_not rfl (Reg.yielded_of (t := 168) rfl xg) (by decide))]
                              exact hK _ _ ⟨hR.1.step (.inr rfl), HB⟩
                            refine Reg.Steps.cons (k' := 20) rfl ?_ ?_
                            · intro D vals a W hR hd hde ev K' hK
                              have HB := hR.2
                              have dg := Reg.dep hde 12 rfl
                              have xg : a.tmps[168]? = some (.bool false) := ev.got hR.1 12 168 _ rfl rfl dg
                              rw [if_neg (Reg.wanted_not rfl (Reg.yielded_of (t := 168) rfl xg) (by decide))]
                              exact hK _ _ ⟨hR.1.step (.inr rfl), HB⟩
                            refine Reg.Steps.cons (k' := 21) rfl ?_ ?_
                            · intro D vals a W hR hd hde ev K' hK
                              have HB := hR.2
                              have d12 := Reg.dep hde 12 rfl
                              have x168 : a.tmps[168]? = some (.bool false) := ev.got hR.1 12 168 _ rfl rfl d12
                              have d19 := Reg.dep hde 19 rfl
                              have x175 : a.tmps[175]? = some (undef) := ev.got hR.1 19 175 _ rfl rfl d19
                              clear hde ev hd HB
                              go_simp
                              exact hK _ _ ⟨hR.1.step (.inr rfl), hR.2⟩
                            exact Reg.Steps.nil
                          · intro D vals W2 hD hR
                            have hB2 := hR.2
                            have ev20 := hR.1 20 _ rfl (hD 20 (by decide))
                            clear hR hD
                            simp only [Reg.fin, Act.put, List.setIfInBounds_toArray, List.set_cons_zero, List.set_cons_succ, ev20]
                            clear ev20
                            generalize vals 0 = z0; generalize vals 1 = z1; generalize vals 2 = z2; generalize vals 3 = z3; generalize vals 4 = z4; generalize vals 5 = z5; generalize vals 6 = z6; generalize vals 7 = z7; generalize vals 8 = z8; generalize vals 9 = z9; generalize vals 10 = z10; generalize vals 11 = z11; generalize vals 12 = z12; generalize vals 13 = z13; generalize vals 14 = z14; generalize vals 15 = z15; generalize vals 16 = z16; generalize vals 17 = z17; generalize vals 18 = z18; generalize vals 19 = z19
                            clear vals
                            have HBF := Lib.hid (HB6.out.trans (hB2.mono HB6.out.size))
                            clear hB2
                            go_wp2_with fail
                            go_roundw
                            case rel => exact ⟨j + 1, by omega, by go_num, HBF.out⟩
                            case measure => simp [intOf]; omega
                        · have hn1 : (ta != ow) = true := by rw [bne, beq_eq_false_iff_ne.2 h1]; rfl
                          have hi1 : ((ta : Int) != (ow : Int)) = true := by rw [bne, beq_eq_false_iff_ne.2 (by omega)]; rfl
                          by_cases h2 : tb = ow
                          · have hn2 : (tb != ow) = false := by rw [bne, beq_iff_eq.2 h2]; rfl
                            have hi2 : ((tb : Int) != (ow : Int)) = false := by rw [h2]; simp
                            clear h1 h2
                            refine Reg.wp_region_inv_lit (by kernel_rfl) (by kernel_rfl) (fun D vals W => Reg.Fx (fun k9 => ([some (.pointer (some ⟨gT, 1, none⟩)), some (.int .u64 (ta : Int)), some (.pointer (some ⟨gS, 0, none⟩)), some (.int .u64 (ow : Int)), some (.bool true), some (.bool true), some (.pointer (some ⟨gT, 2, none⟩)), some (.int .u64 (tb : Int)), some (.pointer (some ⟨gS, 0, none⟩)), some (.int .u64 (ow : Int)), some (.bool false), some (.bool false), some (.bool false), some (undef), some (undef), some (undef), some (undef), some (undef), some (undef), some (undef), some (.bool false)] : List (Option Value)).getD k9 none) D vals ∧ Below V.heap.size V W) ⟨Reg.Fx.init _ _, ⟨rfl, rfl, rfl, Nat.le_refl _, fun _ _ => rfl⟩⟩ (fun Q' => ?_) ?_
                            · refine Reg.Steps.cons (k' := 1) rfl ?_ ?_
                              · intro D vals a W hR hd hde ev K' hK
                                have HB := hR.2
                                have x24 : a.tmps[24]? = some (.pointer (some ⟨gT, 0, none⟩)) := (ev.out 24 (by kernel_rfl)).trans rfl
                                clear hde ev hd HB
                                go_simp
                                exact hK _ _ ⟨hR.1.step (.inr rfl), hR.2⟩
                              refine Reg.Steps.cons (k' := 2) rfl ?_ ?_
                              · intro D vals a W hR hd hde ev K' hK
                                have HB := hR.2
                                have d0 := Reg.dep hde 0 rfl
                                have x156 : a.tmps[156]? = some (.pointer (some ⟨gT, 1, none⟩)) := ev.got hR.1 0 156 _ rfl rfl d0
                                have q := (HKT.out.below HB HKT.out.lt).cell 1
                                clear hde ev hd HB
                                go_simp
                                exact hK _ _ ⟨hR.1.step (.inr rfl), hR.2⟩
                              refine Reg.Steps.cons (k' := 3) rfl ?_ ?_
                              · intro D vals a W hR hd hde ev K' hK
                                have HB := hR.2
                                have x22 : a.tmps[22]? = some (.pointer (some ⟨gS, 0, none⟩)) := (ev.out 22 (by kernel_rfl)).trans rfl
                                clear hde ev hd HB
                                go_simp
                                exact hK _ _ ⟨hR.1.step (.inr rfl), hR.2⟩
                              refine Reg.Steps.cons (k' := 4) rfl ?_ ?_
                              · intro D vals a W hR hd hde ev K' hK
                                have HB := hR.2
                                have d2 := Reg.dep hde 2 rfl
                                have x158 : a.tmps[158]? = some (.pointer (some ⟨gS, 0, none⟩)) := ev.got hR.1 2 158 _ rfl rfl d2
                                have q := (HKS.out.below HB HKS.out.lt).cell 0
                                clear hde ev hd HB
                                go_simp
                                exact hK _ _ ⟨hR.1.step (.inr rfl), hR.2⟩
                              refine Reg.Steps.cons (k' := 5) rfl ?_ ?_
                              · intro D vals a W hR hd hde ev K' hK
                                have HB := hR.2
                                have d1 := Reg.dep hde 1 rfl
                                have x157 : a.tmps[157]? = some (.int .u64 (ta : Int)) := ev.got hR.1 1 157 _ rfl rfl d1
                                have d3 := Reg.dep hde 3 rfl
                                have x159 : a.tmps[159]? = some (.int .u64 (ow : Int)) := ev.got hR.1 3 159 _ rfl rfl d3
                                clear hde ev hd HB
                                go_simp
                                exact hK _ _ ⟨hR.1.step (.inr rfl), hR.2⟩
                              refine Reg.Steps.cons (k' := 6) rfl ?_ ?_
                              · intro D vals a W hR hd hde ev K' hK
                                have HB := hR.2
                                have d4 := Reg.dep hde 4 rfl
                                have x160 : a.tmps[160]? = some (.bool true) := ev.got hR.1 4 160 _ rfl rfl d4
                                clear hde ev hd HB
                                go_simp
                                exact hK _ _ ⟨hR.1.step (.inr rfl), hR.2⟩
                              refine Reg.Steps.cons (k' := 7) rfl ?_ ?_
                              · intro D vals a W hR hd hde ev K' hK
                                have HB := hR.2
                                have dg := Reg.dep hde 5 rfl
                                have xg : a.tmps[161]? = some (.bool true) := ev.got hR.1 5 161 _ rfl rfl dg
                                rw [if_pos (Reg.wanted_of rfl (Reg.yielded_of (t := 161) rfl xg))]
                                have x24 : a.tmps[24]? = some (.pointer (some ⟨gT, 0, none⟩)) := (ev.out 24 (by kernel_rfl)).trans rfl
                                clear hde ev hd HB
                                go_simp
                                exact hK _ _ ⟨hR.1.step (.inr rfl), hR.2⟩
                              refine Reg.Steps.cons (k' := 8) rfl ?_ ?_
                              · intro D vals a W hR hd hde ev K' hK
                                have HB := hR.2
                                have dg := Reg.dep hde 5 rfl
                                have xg : a.tmps[161]? = some (.bool true) := ev.got hR.1 5 161 _ rfl rfl dg
                                rw [if_pos (Reg.wanted_of rfl (Reg.yielded_of (t := 161) rfl xg))]
                                have d6 := Reg.dep hde 6 rfl
                                have x162 : a.tmps[162]? = some (.pointer (some ⟨gT, 2, none⟩)) := ev.got hR.1 6 162 _ rfl rfl d6
                                have q := (HKT.out.below HB HKT.out.lt).cell 2
                                clear hde ev hd HB
                                go_simp
                                exact hK _ _ ⟨hR.1.step (.inr rfl), hR.2⟩
                              refine Reg.Steps.cons (k' := 9) rfl ?_ ?_
                              · intro D vals a W hR hd hde ev K' hK
                                have HB := hR.2
                                have dg := Reg.dep hde 5 rfl
                                have xg : a.tmps[161]? = some (.bool true) := ev.got hR.1 5 161 _ rfl rfl dg
                                rw [if_pos (Reg.wanted_of rfl (Reg.yielded_of (t := 161) rfl xg))]
                                have x22 : a.tmps[22]? = some (.pointer (some ⟨gS, 0, none⟩)) := (ev.out 22 (by kernel_rfl)).trans rfl
                                clear hde ev hd HB
                                go_simp
                                exact hK _ _ ⟨hR.1.step (.inr rfl), hR.2⟩
                              refine Reg.Steps.cons (k' := 10) rfl ?_ ?_
                              · intro D vals a W hR hd hde ev K' hK
                                have HB := hR.2
                                have dg := Reg.dep hde 5 rfl
                                have xg : a.tmps[161]? = some (.bool true) := ev.got hR.1 5 161 _ rfl rfl dg
                                rw [if_pos (Reg.wanted_of rfl (Reg.yielded_of (t := 161) rfl xg))]
                                have d8 := Reg.dep hde 8 rfl
                                have x164 : a.tmps[164]? = some (.pointer (some ⟨gS, 0, none⟩)) := ev.got hR.1 8 164 _ rfl rfl d8
                                have q := (HKS.out.below HB HKS.out.lt).cell 0
                                clear hde ev hd HB
                                go_simp
                                exact hK _ _ ⟨hR.1.step (.inr rfl), hR.2⟩
                              refine Reg.Steps.cons (k' := 11) rfl ?_ ?_
                              · intro D vals a W hR hd hde ev K' hK
                                have HB := hR.2
                                have dg := Reg.dep hde 5 rfl
                                have xg : a.tmps[161]? = some (.bool true) := ev.got hR.1 5 161 _ rfl rfl dg
                                rw [if_pos (Reg.wanted_of rfl (Reg.yielded_of (t := 161) rfl xg))]
                                have d7 := Reg.dep hde 7 rfl
                                have x163 : a.tmps[163]? = some (.int .u64 (tb : Int)) := ev.got hR.1 7 163 _ rfl rfl d7
                                have d9 := Reg.dep hde 9 rfl
                                have x165 : a.tmps[165]? = some (.int .u64 (ow : Int)) := ev.got hR.1 9 165 _ rfl rfl d9
                                clear hde ev hd HB
                                go_simp
                                exact hK _ _ ⟨hR.1.step (.inr rfl), hR.2⟩
                              refine Reg.Steps.cons (k' := 12) rfl ?_ ?_
                              · intro D vals a W hR hd hde ev K' hK
                                have HB := hR.2
                                have d5 := Reg.dep hde 5 rfl
                                have x161 : a.tmps[161]? = some (.bool true) := ev.got hR.1 5 161 _ rfl rfl d5
                                have d10 := Reg.dep hde 10 rfl
                                have x166 : a.tmps[166]? = some (.bool false) := ev.got hR.1 10 166 _ rfl rfl d10
                                clear hde ev hd HB
                                go_simp
                                exact hK _ _ ⟨hR.1.step (.inr rfl), hR.2⟩
                              refine Reg.Steps.cons (k' := 13) rfl ?_ ?_
                              · intro D vals a W hR hd hde ev K' hK
                                have HB := hR.2
                                have d11 := Reg.dep hde 11 rfl
                                have x167 : a.tmps[167]? = some (.bool false) := ev.got hR.1 11 167 _ rfl rfl d11
                                clear hde ev hd HB
                                go_simp
                                exact hK _ _ ⟨hR.1.step (.inr rfl), hR.2⟩
                              refine Reg.Steps.cons (k' := 14) rfl ?_ ?_
                              · intro D vals a W hR hd hde ev K' hK
                                have HB := hR.2
                                have dg := Reg.dep hde 12 rfl
                                have xg : a.tmps[168]? = some (.bool false) := ev.got hR.1 12 168 _ rfl rfl dg
                                rw [if_neg (Reg.wanted_not rfl (Reg.yielded_of (t := 168) rfl xg) (by decide))]
                                exact hK _ _ ⟨hR.1.step (.inr rfl), HB⟩
                              refine Reg.Steps.cons (k' := 15) rfl ?_ ?_
                              · intro D vals a W hR hd hde ev K' hK
                                have HB := hR.2
                                have dg := Reg.dep hde 12 rfl
                                have xg : a.tmps[168]? = some (.bool false) := ev.got hR.1 12 168 _ rfl rfl dg
                                rw [if_neg (Reg.wanted_not rfl (Reg.yielded_of (t := 168) rfl xg) (by decide))]
                                exact hK _ _ ⟨hR.1.step (.inr rfl), HB⟩
                              refine Reg.Steps.cons (k' := 16) rfl ?_ ?_
                              · intro D vals a W hR hd hde ev K' hK
                                have HB := hR.2
                                have dg := Reg.dep hde 12 rfl
                                have xg : a.tmps[168]? = some (.bool false) := ev.got hR.1 12 168 _ rfl rfl dg
                                rw [if_neg (Reg.wanted_not rfl (Reg.yielded_of (t := 168) rfl xg) (by decide))]
                                exact hK _ _ ⟨hR.1.step (.inr rfl), HB⟩
                              refine Reg.Steps.cons (k' := 17) rfl ?_ ?_
                              · intro D vals a W hR hd hde ev K' hK
                                have HB := hR.2
                                have dg := Reg.dep hde 12 rfl
                                have xg : a.tmps[168]? = some (.bool false) := ev.got hR.1 12 168 _ rfl rfl dg
                                rw [if_neg (Reg.wanted_not rfl (Reg.yielded_of (t := 168) rfl xg) (by decide))]
                                exact hK _ _ ⟨hR.1.step (.inr rfl), HB⟩
                              refine Reg.Steps.cons (k' := 18) rfl ?_ ?_
                              · intro D vals a W hR hd hde ev K' hK
                                have HB := hR.2
                                have dg := Reg.dep hde 12 rfl
                                have xg : a.tmps[168]? = some (.bool false) := ev.got hR.1 12 168 _ rfl rfl dg
                                rw [if_neg (Reg.wanted_not rfl (Reg.yielded_of (t := 168) rfl xg) (by decide))]
                                exact hK _ _ ⟨hR.1.step (.inr rfl), HB⟩
                              refine Reg.Steps.cons (k' := 19) rfl ?_ ?_
                              · intro D vals a W hR hd hde ev K' hK
                                have HB := hR.2
                                have dg := Reg.dep hde 12 rfl
                                have xg : a.tmps[168]? = some (.bool false) := ev.got hR.1 12 168 _ rfl rfl dg
                                rw [if_neg (Reg.wanted_not rfl (Reg.yielded_of (t := 168) rfl xg) (by decide))]
                                exact hK _ _ ⟨hR.1.step (.inr rfl), HB⟩
                              refine Reg.Steps.cons (k' := 20) rfl ?_ ?_
                              · intro D vals a W hR hd hde ev K' hK
                                have HB := hR.2
                                have dg := Reg.dep hde 12 rfl
                                have xg : a.tmps[168]? = some (.bool false) := ev.got hR.1 12 168 _ rfl rfl dg
                                rw [if_neg (Reg.wanted_not rfl (Reg.yielded_of (t := 168) rfl xg) (by decide))]
                                exact hK _ _ ⟨hR.1.step (.inr rfl), HB⟩
                              refine Reg.Steps.cons (k' := 21) rfl ?_ ?_
                              · intro D vals a W hR hd hde ev K' hK
                                have HB := hR.2
                                have d12 := Reg.dep hde 12 rfl
                                have x168 : a.tmps[168]? = some (.bool false) := ev.got hR.1 12 168 _ rfl rfl d12
                                have d19 := Reg.dep hde 19 rfl
                                have x175 : a.tmps[175]? = some (undef) := ev.got hR.1 19 175 _ rfl rfl d19
                                clear hde ev hd HB
                                go_simp
                                exact hK _ _ ⟨hR.1.step (.inr rfl), hR.2⟩
                              exact Reg.Steps.nil
                            · intro D vals W2 hD hR
                              have hB2 := hR.2
                              have ev20 := hR.1 20 _ rfl (hD 20 (by decide))
                              clear hR hD
                              simp only [Reg.fin, Act.put, List.setIfInBounds_toArray, List.set_cons_zero, List.set_cons_succ, ev20]
                              clear ev20
                              generalize vals 0 = z0; generalize vals 1 = z1; generalize vals 2 = z2; generalize vals 3 = z3; generalize vals 4 = z4; generalize vals 5 = z5; generalize vals 6 = z6; generalize vals 7 = z7; generalize vals 8 = z8; generalize vals 9 = z9; generalize vals 10 = z10; generalize vals 11 = z11; generalize vals 12 = z12; generalize vals 13 = z13; generalize vals 14 = z14; generalize vals 15 = z15; generalize vals 16 = z16; generalize vals 17 = z17; generalize vals 18 = z18; generalize vals 19 = z19
                              clear vals
                              have HBF := Lib.hid (HB6.out.trans (hB2.mono HB6.out.size))
                              clear hB2
                              go_wp2_with fail
                              go_roundw
                              case rel => exact ⟨j + 1, by omega, by go_num, HBF.out⟩
                              case measure => simp [intOf]; omega
                          · have hn2 : (tb != ow) = true := by rw [bne, beq_eq_false_iff_ne.2 h2]; rfl
                            have hi2 : ((tb : Int) != (ow : Int)) = true := by rw [bne, beq_eq_false_iff_ne.2 (by omega)]; rfl
                            have HVIS : Hid (∀ W, Below V.heap.size V W → Calls Try.prog 21 #[.pointer (some ⟨P, 0, none⟩), .agg #[.int .u64 (ow : Int), .int .u64 (xm : Int), .int .u64 (xx : Int), .slice RA rn rc], .agg #[.int .u64 0, .int .u64 (ta : Int), .int .u64 (tb : Int), .int .i64 0, .int .i64 0, .slice none 0 0]] W fun e w' => e = .returned (.bool false) ∧ Below W.heap.size W w') := Lib.hid (fun W h => HVIS0.out W (HB4V.out.trans (h.mono HB4V.out.size)) ta tb HTJ.out h1 h2)
                            clear h1 h2
                            refine Reg.wp_region_inv_lit (by kernel_rfl) (by kernel_rfl) (fun D vals W => Reg.Fx (fun k9 => ([some (.pointer (some ⟨gT, 1, none⟩)), some (.int .u64 (ta : Int)), some (.pointer (some ⟨gS, 0, none⟩)), some (.int .u64 (ow : Int)), some (.bool true), some (.bool true), some (.pointer (some ⟨gT, 2, none⟩)), some (.int .u64 (tb : Int)), some (.pointer (some ⟨gS, 0, none⟩)), some (.int .u64 (ow : Int)), some (.bool true), some (.bool true), some (.bool true), some (.pointer (some ⟨PB, 0, none⟩)), some (.pointer (some ⟨PB, 0, none⟩)), some (.pointer (some ⟨PB, 0, none⟩)), some (.pointer (some ⟨P, 0, none⟩)), some (.agg #[.int .u64 (ow : Int), .int .u64 (xm : Int), .int .u64 (xx : Int), .slice RA rn rc]), some (.agg #[.int .u64 0, .int .u64 (ta : Int), .int .u64 (tb : Int), .int .i64 0, .int .i64 0, .slice none 0 0]), some (.bool false), some (.bool false)] : List (Option Value)).getD k9 none) D vals ∧ Below V.heap.size V W) ⟨Reg.Fx.init _ _, ⟨rfl, rfl, rfl, Nat.le_refl _, fun _ _ => rfl⟩⟩ (fun Q' => ?_) ?_
                            · refine Reg.Steps.cons (k' := 1) rfl ?_ ?_
                              · intro D vals a W hR hd hde ev K' hK
                                have HB := hR.2
                                have x24 : a.tmps[24]? = some (.pointer (some ⟨gT, 0, none⟩)) := (ev.out 24 (by kernel_rfl)).trans rfl
                                clear hde ev hd HB
                                go_simp
                                exact hK _ _ ⟨hR.1.step (.inr rfl), hR.2⟩
                              refine Reg.Steps.cons (k' := 2) rfl ?_ ?_
                              · intro D vals a W hR hd hde ev K' hK
                                have HB := hR.2
                                have d0 := Reg.dep hde 0 rfl
                                have x156 : a.tmps[156]? = some (.pointer (some ⟨gT, 1, none⟩)) := ev.got hR.1 0 156 _ rfl rfl d0
                                have q := (HKT.out.below HB HKT.out.lt).cell 1
                                clear hde ev hd HB
                                go_simp
                                exact hK _ _ ⟨hR.1.step (.inr rfl), hR.2⟩
                              refine Reg.Steps.cons (k' := 3) rfl ?_ ?_
                              · intro D vals a W hR hd hde ev K' hK
                                have HB := hR.2
                                have x22 : a.tmps[22]? = some (.pointer (some ⟨gS, 0, none⟩)) := (ev.out 22 (by kernel_rfl)).trans rfl
                                clear hde ev hd HB
                                go_simp
                                exact hK _ _ ⟨hR.1.step (.inr rfl), hR.2⟩
                              refine Reg.Steps.cons (k' := 4) rfl ?_ ?_
                              · intro D vals a W hR hd hde ev K' hK
                                have HB := hR.2
                                have d2 := Reg.dep hde 2 rfl
                                have x158 : a.tmps[158]? = some (.pointer (some ⟨gS, 0, none⟩)) := ev.got hR.1 2 158 _ rfl rfl d2
                                have q := (HKS.out.below HB HKS.out.lt).cell 0
                                clear hde ev hd HB
                                go_simp
                                exact hK _ _ ⟨hR.1.step (.inr rfl), hR.2⟩
                              refine Reg.Steps.cons (k' := 5) rfl ?_ ?_
                              · intro D vals a W hR hd hde ev K' hK
                                have HB := hR.2
                                have d1 := Reg.dep hde 1 rfl
                                have x157 : a.tmps[157]? = some (.int .u64 (ta : Int)) := ev.got hR.1 1 157 _ rfl rfl d1
                                have d3 := Reg.dep hde 3 rfl
                                have x159 : a.tmps[159]? = some (.int .u64 (ow : Int)) := ev.got hR.1 3 159 _ rfl rfl d3
                                clear hde ev hd HB
                                go_simp
                                exact hK _ _ ⟨hR.1.step (.inr rfl), hR.2⟩
                              refine Reg.Steps.cons (k' := 6) rfl ?_ ?_
                              · intro D vals a W hR hd hde ev K' hK
                                have HB := hR.2
                                have d4 := Reg.dep hde 4 rfl
                                have x160 : a.tmps[160]? = some (.bool true) := ev.got hR.1 4 160 _ rfl rfl d4
                                clear hde ev hd HB
                                go_simp
                                exact hK _ _ ⟨hR.1.step (.inr rfl), hR.2⟩
                              refine Reg.Steps.cons (k' := 7) rfl ?_ ?_
                              · intro D vals a W hR hd hde ev K' hK
                                have HB := hR.2
                                have dg := Reg.dep hde 5 rfl
                                have xg : a.tmps[161]? = some (.bool true) := ev.got hR.1 5 161 _ rfl rfl dg
                                rw [if_pos (Reg.wanted_of rfl (Reg.yielded_of (t := 161) rfl xg))]
                                have x24 : a.tmps[24]? = some (.pointer (some ⟨gT, 0, none⟩)) := (ev.out 24 (by kernel_rfl)).trans rfl
                                clear hde ev hd HB
                                go_simp
                                exact hK _ _ ⟨hR.1.step (.inr rfl), hR.2⟩
                              refine Reg.Steps.cons (k' := 8) rfl ?_ ?_
                              · intro D vals a W hR hd hde ev K' hK
                                have HB := hR.2
                                have dg := Reg.dep hde 5 rfl
                                have xg : a.tmps[161]? = some (.bool true) := ev.got hR.1 5 161 _ rfl rfl dg
                                rw [if_pos (Reg.wanted_of rfl (Reg.yielded_of (t := 161) rfl xg))]
                                have d6 := Reg.dep hde 6 rfl
                                have x162 : a.tmps[162]? = some (.pointer (some ⟨gT, 2, none⟩)) := ev.got hR.1 6 162 _ rfl rfl d6
                                have q := (HKT.out.below HB HKT.out.lt).cell 2
                                clear hde ev hd HB
                                go_simp
                                exact hK _ _ ⟨hR.1.step (.inr rfl), hR.2⟩
                              refine Reg.Steps.cons (k' := 9) rfl ?_ ?_
                              · intro D vals a W hR hd hde ev K' hK
                                have HB := hR.2
                                have dg := Reg.dep hde 5 rfl
                                have xg : a.tmps[161]? = some (.bool true) := ev.got hR.1 5 161 _ rfl rfl dg
                                rw [if_pos (Reg.wanted_of rfl (Reg.yielded_of (t := 161) rfl xg))]
                                have x22 : a.tmps[22]? = some (.pointer (some ⟨gS, 0, none⟩)) := (ev.out 22 (by kernel_rfl)).trans rfl
                                clear hde ev hd HB
                                go_simp
                                exact hK _ _ ⟨hR.1.step (.inr rfl), hR.2⟩
                              refine Reg.Steps.cons (k' := 10) rfl ?_ ?_
                              · intro D vals a W hR hd hde ev K' hK
                                have HB := hR.2
                                have dg := Reg.dep hde 5 rfl
                                have xg : a.tmps[161]? = some (.bool true) := ev.got hR.1 5 161 _ rfl rfl dg
                                rw [if_pos (Reg.wanted_of rfl (Reg.yielded_of (t := 161) rfl xg))]
                                have d8 := Reg.dep hde 8 rfl
                                have x164 : a.tmps[164]? = some (.pointer (some ⟨gS, 0, none⟩)) := ev.got hR.1 8 164 _ rfl rfl d8
                                have q := (HKS.out.below HB HKS.out.lt).cell 0
                                clear hde ev hd HB
                                go_simp
                                exact hK _ _ ⟨hR.1.step (.inr rfl), hR.2⟩
                              refine Reg.Steps.cons (k' := 11) rfl ?_ ?_
                              · intro D vals a W hR hd hde ev K' hK
                                have HB := hR.2
                                have dg := Reg.dep hde 5 rfl
                                have xg : a.tmps[161]? = some (.bool true) := ev.got hR.1 5 161 _ rfl rfl dg
                                rw [if_pos (Reg.wanted_of rfl (Reg.yielded_of (t := 161) rfl xg))]
                                have d7 := Reg.dep hde 7 rfl
                                have x163 : a.tmps[163]? = some (.int .u64 (tb : Int)) := ev.got hR.1 7 163 _ rfl rfl d7
                                have d9 := Reg.dep hde 9 rfl
                                have x165 : a.tmps[165]? = some (.int .u64 (ow : Int)) := ev.got hR.1 9 165 _ rfl rfl d9
                                clear hde ev hd HB
                                go_simp
                                exact hK _ _ ⟨hR.1.step (.inr rfl), hR.2⟩
                              refine Reg.Steps.cons (k' := 12) rfl ?_ ?_
                              · intro D vals a W hR hd hde ev K' hK
                                have HB := hR.2
                                have d5 := Reg.dep hde 5 rfl
                                have x161 : a.tmps[161]? = some (.bool true) := ev.got hR.1 5 161 _ rfl rfl d5
                                have d10 := Reg.dep hde 10 rfl
                                have x166 : a.tmps[166]? = some (.bool true) := ev.got hR.1 10 166 _ rfl rfl d10
                                clear hde ev hd HB
                                go_simp
                                exact hK _ _ ⟨hR.1.step (.inr rfl), hR.2⟩
                              refine Reg.Steps.cons (k' := 13) rfl ?_ ?_
                              · intro D vals a W hR hd hde ev K' hK
                                have HB := hR.2
                                have d11 := Reg.dep hde 11 rfl
                                have x167 : a.tmps[167]? = some (.bool true) := ev.got hR.1 11 167 _ rfl rfl d11
                                clear hde ev hd HB
                                go_simp
                                exact hK _ _ ⟨hR.1.step (.inr rfl), hR.2⟩
                              refine Reg.Steps.cons (k' := 14) rfl ?_ ?_
                              · intro D vals a W hR hd hde ev K' hK
                                have HB := hR.2
                                have dg := Reg.dep hde 12 rfl
                                have xg : a.tmps[168]? = some (.bool true) := ev.got hR.1 12 168 _ rfl rfl dg
                                rw [if_pos (Reg.wanted_of rfl (Reg.yielded_of (t := 168) rfl xg))]
                                have x7 : a.tmps[7]? = some (.pointer (some ⟨PB, 0, none⟩)) := (ev.out 7 (by kernel_rfl)).trans rfl
                                clear hde ev hd HB
                                go_simp
                                exact hK _ _ ⟨hR.1.step (.inr rfl), hR.2⟩
                              refine Reg.Steps.cons (k' := 15) rfl ?_ ?_
                              · intro D vals a W hR hd hde ev K' hK
                                have HB := hR.2
                                have dg := Reg.dep hde 12 rfl
                                have xg : a.tmps[168]? = some (.bool true) := ev.got hR.1 12 168 _ rfl rfl dg
                                rw [if_pos (Reg.wanted_of rfl (Reg.yielded_of (t := 168) rfl xg))]
                                have d13 := Reg.dep hde 13 rfl
                                have x169 : a.tmps[169]? = some (.pointer (some ⟨PB, 0, none⟩)) := ev.got hR.1 13 169 _ rfl rfl d13
                                clear hde ev hd HB
                                go_simp
                                exact hK _ _ ⟨hR.1.step (.inr rfl), hR.2⟩
                              refine Reg.Steps.cons (k' := 16) rfl ?_ ?_
                              · intro D vals a W hR hd hde ev K' hK
                                have HB := hR.2
                                have dg := Reg.dep hde 12 rfl
                                have xg : a.tmps[168]? = some (.bool true) := ev.got hR.1 12 168 _ rfl rfl dg
                                rw [if_pos (Reg.wanted_of rfl (Reg.yielded_of (t := 168) rfl xg))]
                                have d14 := Reg.dep hde 14 rfl
                                have x170 : a.tmps[170]? = some (.pointer (some ⟨PB, 0, none⟩)) := ev.got hR.1 14 170 _ rfl rfl d14
                                clear hde ev hd HB
                                go_simp
                                exact hK _ _ ⟨hR.1.step (.inr rfl), hR.2⟩
                              refine Reg.Steps.cons (k' := 17) rfl ?_ ?_
                              · intro D vals a W hR hd hde ev K' hK
                                have HB := hR.2
                                have dg := Reg.dep hde 12 rfl
                                have xg : a.tmps[168]? = some (.bool true) := ev.got hR.1 12 168 _ rfl rfl dg
                                rw [if_pos (Reg.wanted_of rfl (Reg.yielded_of (t := 168) rfl xg))]
                                have d15 := Reg.dep hde 15 rfl
                                have x171 : a.tmps[171]? = some (.pointer (some ⟨PB, 0, none⟩)) := ev.got hR.1 15 171 _ rfl rfl d15
                                have q := HPC.out W HB
                                clear hde ev hd HB
                                go_simp
                                exact hK _ _ ⟨hR.1.step (.inr rfl), hR.2⟩
                              refine Reg.Steps.cons (k' := 18) rfl ?_ ?_
                              · intro D vals a W hR hd hde ev K' hK
                                have HB := hR.2
                                have dg := Reg.dep hde 12 rfl
                                have xg : a.tmps[168]? = some (.bool true) := ev.got hR.1 12 168 _ rfl rfl dg
                                rw [if_pos (Reg.wanted_of rfl (Reg.yielded_of (t := 168) rfl xg))]
                                have x22 : a.tmps[22]? = some (.pointer (some ⟨gS, 0, none⟩)) := (ev.out 22 (by kernel_rfl)).trans rfl
                                have ks := HKS.out.below HB HKS.out.lt
                                have q0 := ks.cell 0
                                have q1 := ks.cell 1
                                have q2 := ks.cell 2
                                have q3 := ks.cell 3
                                clear ks
                                clear hde ev hd HB
                                go_simp
                                exact hK _ _ ⟨hR.1.step (.inr rfl), hR.2⟩
                              refine Reg.Steps.cons (k' := 19) rfl ?_ ?_
                              · intro D vals a W hR hd hde ev K' hK
                                have HB := hR.2
                                have dg := Reg.dep hde 12 rfl
                                have xg : a.tmps[168]? = some (.bool true) := ev.got hR.1 12 168 _ rfl rfl dg
                                rw [if_pos (Reg.wanted_of rfl (Reg.yielded_of (t := 168) rfl xg))]
                                have x24 : a.tmps[24]? = some (.pointer (some ⟨gT, 0, none⟩)) := (ev.out 24 (by kernel_rfl)).trans rfl
                                have kt := HKT.out.below HB HKT.out.lt
                                have q0 := kt.cell 0
                                have q1 := kt.cell 1
                                have q2 := kt.cell 2
                                have q3 := kt.cell 3
                                have q4 := kt.cell 4
                                have q5 := kt.cell 5
                                clear kt
                                clear hde ev hd HB
                                go_simp
                                exact hK _ _ ⟨hR.1.step (.inr rfl), hR.2⟩
                              refine Reg.Steps.cons (k' := 20) rfl ?_ ?_
                              · intro D vals a W hR hd hde ev K' hK
                                have HB := hR.2
                                have dg := Reg.dep hde 12 rfl
                                have xg : a.tmps[168]? = some (.bool true) := ev.got hR.1 12 168 _ rfl rfl dg
                                rw [if_pos (Reg.wanted_of rfl (Reg.yielded_of (t := 168) rfl xg))]
                                have d16 := Reg.dep hde 16 rfl
                                have x172 : a.tmps[172]? = some (.pointer (some ⟨P, 0, none⟩)) := ev.got hR.1 16 172 _ rfl rfl d16
                                have d17 := Reg.dep hde 17 rfl
                                have x173 : a.tmps[173]? = some (.agg #[.int .u64 (ow : Int), .int .u64 (xm : Int), .int .u64 (xx : Int), .slice RA rn rc]) := ev.got hR.1 17 173 _ rfl rfl d17
                                have d18 := Reg.dep hde 18 rfl
                                have x174 : a.tmps[174]? = some (.agg #[.int .u64 0, .int .u64 (ta : Int), .int .u64 (tb : Int), .int .i64 0, .int .i64 0, .slice none 0 0]) := ev.got hR.1 18 174 _ rfl rfl d18
                                have CC := Lib.hid (HVIS.out W HB)
                                have HR1 := Lib.hid hR
                                clear hde ev hd HB hR
                                go_simp
                                refine CC.out.mono ?_
                                rintro e W1 ⟨rfl, hb⟩
                                exact hK _ _ ⟨HR1.out.1.step (.inr rfl), HR1.out.2.trans (hb.mono HR1.out.2.size)⟩
                              refine Reg.Steps.cons (k' := 21) rfl ?_ ?_
                              · intro D vals a W hR hd hde ev K' hK
                                have HB := hR.2
                                have d12 := Reg.dep hde 12 rfl
                                have x168 : a.tmps[168]? = some (.bool true) := ev.got hR.1 12 168 _ rfl rfl d12
                                have d19 := Reg.dep hde 19 rfl
                                have x175 : a.tmps[175]? = some (.bool false) := ev.got hR.1 19 175 _ rfl rfl d19
                                clear hde ev hd HB
                                go_simp
                                exact hK _ _ ⟨hR.1.step (.inr rfl), hR.2⟩
                              exact Reg.Steps.nil
                            · intro D vals W2 hD hR
                              have hB2 := hR.2
                              have ev20 := hR.1 20 _ rfl (hD 20 (by decide))
                              clear hR hD
                              simp only [Reg.fin, Act.put, List.setIfInBounds_toArray, List.set_cons_zero, List.set_cons_succ, ev20]
                              clear ev20
                              generalize vals 0 = z0; generalize vals 1 = z1; generalize vals 2 = z2; generalize vals 3 = z3; generalize vals 4 = z4; generalize vals 5 = z5; generalize vals 6 = z6; generalize vals 7 = z7; generalize vals 8 = z8; generalize vals 9 = z9; generalize vals 10 = z10; generalize vals 11 = z11; generalize vals 12 = z12; generalize vals 13 = z13; generalize vals 14 = z14; generalize vals 15 = z15; generalize vals 16 = z16; generalize vals 17 = z17; generalize vals 18 = z18; generalize vals 19 = z19
                              clear vals
                              have HBF := Lib.hid (HB6.out.trans (hB2.mono HB6.out.size))
                              clear hB2
                              go_wp2_with fail
                              go_roundw
                              case rel => exact ⟨j + 1, by omega, by go_num, HBF.out⟩
                              case measure => simp [intOf]; omega
                      · obtain rfl : j = m3 := by omega
                        have HBF := Lib.hid (HB4.out.trans (HBJ.out.mono HB4.out.size))
                        go_wp2_with fail
                        go_roundw
                        case rel => exact ⟨t + 1, by omega, by go_num, HBF.out⟩
                        case measure => simp [intOf]; omega
                  · obtain rfl : t = m2 := by omega
                    have HFIN := Lib.hid (bel_trans HB1.out (HLS4.out.ap.below HBO.out).1.bel)
                    go_wp2_with fail
                    go_ret
                    exact ⟨rfl, HFIN.out⟩
              · have h30' : ¬ (30 : Int) ≤ q := by omega
                have HLEN : Hid (lv.length ≤ 40 + min (q + 1) 30) := Lib.hid (by omega)
                obtain ⟨r4, hr4⟩ : ∃ r4 : Nat, d % 4 = r4 := ⟨_, rfl⟩
                have hr4' : (d : Int) % 4 = r4 := by omega
                have hd0 : (d : Int) < 256 := by omega
                have hx0 : (y : Int) < 18446744073709551616 := by omega
                obtain ⟨y60, hy⟩ : ∃ y60 : Nat, y % 60 = y60 := ⟨_, rfl⟩
                have hy' : (y : Int) % 60 = y60 := by omega
                have hy60 : y60 < 60 := by omega
                have hty : Int.tmod (y : Int) 60 = (y60 : Int) := by rw [Int.tmod_eq_emod_of_nonneg (by omega)]; exact hy'
                have HKO : Hid (Blk (wr.alloc (.cells #[.int .u8 (d : Int), .int .u64 (y : Int)] 62)) wr.heap.size 62 #[.int .u8 (d : Int), .int .u64 (y : Int)]) := Lib.hid (Blk.new _ _ _)
                have HPBV : Hid (Blk (wr.alloc (.cells #[.int .u8 (d : Int), .int .u64 (y : Int)] 62)) PB 35 #[.pointer (some ⟨P, 0, none⟩), .pointer (some ⟨Q, 0, none⟩), .slice A1 sl.length c1, .slice B1 sl.length d1]) := Lib.hid ((HLV.out.k1 PB HPS.out.kPB).2.trans HPS.out.pb)
                clear hr4 hy
                rcases (show r4 = 0 ∨ r4 = 1 ∨ ((r4 : Int) == 0) = false ∧ ((r4 : Int) == 1) = false by
                  rcases (show r4 = 0 ∨ r4 = 1 ∨ 1 < r4 by omega) with h | h | h
                  · exact .inl h
                  · exact .inr (.inl h)
                  · exact .inr (.inr ⟨by rw [beq_eq_false_iff_ne]; omega, by rw [beq_eq_false_iff_ne]; omega⟩)) with rfl | rfl | ⟨hr0, hr1⟩
                · have q0 := HPBV.out.cell 0
                  simp only [List.getElem?_toArray, List.getElem?_cons_zero] at q0
                  by_cases hfu : 1 + S'.length ≤ 1099511627776
                  · have HFU := Lib.hid hfu
                    clear hfu
                    obtain ⟨nx, hnx⟩ : ∃ nx, 1 + S'.length = nx := ⟨_, rfl⟩
                    have CB : Hid (Calls Try.prog 25 #[.pointer (some ⟨P, 0, none⟩)] (wr.alloc (.cells #[.int .u8 (d : Int), .int .u64 (y : Int)] 62)) fun e w' => e = .returned (.tuple #[.int .u64 (nx : Int), .int .i64 0]) ∧ AP w1 w' Kv P Q 1 (S' ++ [1]) S ∧ KeepK Kv (wr.alloc (.cells #[.int .u8 (d : Int), .int .u64 (y : Int)] 62)) w') := Lib.hid (by
                      have := ap_begin HLV.out.ap HFU.out
                      rw [hnx] at this
                      exact this)
                    have HNX := Lib.hid hnx
                    clear hnx
                    go_wp2_with fail
                    refine CB.out.mono ?_
                    rintro e w6 ⟨rfl, ha6, hk6⟩
                    have HL6 := Lib.hid (HLV.out.goes ha6 hk6 (st_ok_snoc HLV.out.ok) (later_snoc S'))
                    have HP6 : Hid (Blk w6 PB 35 #[.pointer (some ⟨P, 0, none⟩), .pointer (some ⟨Q, 0, none⟩), .slice A1 sl.length c1, .slice B1 sl.length d1]) := Lib.hid ((HL6.out.k1 PB HPS.out.kPB).2.trans HPS.out.pb)
                    have q0 := HP6.out.cell 0
                    simp only [List.getElem?_toArray, List.getElem?_cons_zero] at q0
                    obtain ⟨xm, hxm⟩ : ∃ xm, xminOf 1 (S' ++ [1]) nx = xm := ⟨_, rfl⟩
                    obtain ⟨xx, hxx⟩ : ∃ xx, 1 + (S' ++ [1]).length = xx := ⟨_, rfl⟩
                    obtain ⟨run, hrun⟩ : ∃ run, runX 1 (S' ++ [1]) nx = run := ⟨_, rfl⟩
                    obtain ⟨rn, hrn⟩ : ∃ rn, run.length = rn := ⟨_, rfl⟩
                    have CT : Hid (Calls Try.prog 29 #[.pointer (some ⟨P, 0, none⟩), .int .u64 (nx : Int)] w6 fun e w' => ∃ A c, e = .returned (.agg #[.int .u64 (nx : Int), .int .u64 (xm : Int), .int .u64 (xx : Int), .slice A rn c]) ∧ SlU w' A c run ∧ (∀ ad, 0 < run.length → A = some ad → w6.heap.size ≤ ad.block) ∧ Below w6.heap.size w6 w') := Lib.hid (by
                      obtain ⟨F, hal⟩ := ha6.al
                      refine (take_any hal nx).mono ?_
                      rintro e w' ⟨A, c, rfl, h1, h2, h3⟩
                      rw [hrun] at h1 h2
                      exact ⟨A, c, by rw [hxm, hxx, hrun, hrn], h1, h2, h3⟩)
                    have HNVX : Hid (∀ RA rc, NV S dl ⟨nx, xm, xx, run, RA, rc, none, 0⟩) := Lib.hid (fun RA rc => nv_new (S1 := S' ++ [1]) (h := hz) HL6.out.lat hxx.symm hrun.symm HDH.out)
                    have HRN := Lib.hid hrn
                    have hlv69 : lv.length < 70 := by have := HLEN.out; omega
                    obtain ⟨m2, hm2⟩ : ∃ m2, lv.length = m2 := ⟨_, rfl⟩
                    have HM2 := Lib.hid hm2
                    rw [hm2] at hlv69
                    rw [hm2]
                    clear ha6 hk6 hxm hxx hrun hrn hm2 CB
                    go_wp2_with fail
                    refine CT.out.mono ?_
                    rintro e w7 ⟨RA, rc, rfl, hs7, hf7, hb7⟩
                    have HS7 := Lib.hid hs7
                    have HF7 := Lib.hid hf7
                    have HB7 := Lib.hid hb7
                    clear hs7 hf7 hb7 CT q0
                    go_wp2_with (first | (at_builtin; go_loud (refine wpl_app_s rfl (.tmp 124) (.tmp 131) rfl w1.heap.size _ m2 (cas lv) rfl (show OwnS (w7.alloc _) w1.heap.size (.slice A2 m2 c2) m2 (cas lv) from (by have := own_below HL6.out.own HB7.out; rw [HM2.out] at this; exact OwnS.alloc this _)) _ _ 1 _ rfl (lies_lit _ _ _ 4 1 rfl) (by intro u hu; simp at hu; rcases hu with rfl | rfl | rfl | rfl <;> rfl) (by omega) (by rw [size_alloc]; have h1 := HB7.out.size; have h2 := HL6.out.ap.bel.size; omega) ?_; intro v1 w8 hown1 hk1; obtain ⟨Kv9, A9, c9, hv9, hs9⟩ := HL6.out.more (s := ⟨nx, xm, xx, run, RA, rc, none, 0⟩) HB7.out HS7.out HF7.out (HNVX.out RA rc) (by rw [HM2.out, show Sp.ca ⟨nx, xm, xx, run, RA, rc, none, 0⟩ = [.int .u64 (nx : Int), .int .u64 (xm : Int), .int .u64 (xx : Int), .slice RA rn rc] by unfold Sp.ca; rw [HRN.out]]; exact hown1) (by rw [HM2.out]; exact hk1); subst hv9; have HL9 := Lib.hid hs9; clear hown1 hk1 hs9)) | fail)
                    go_roundw
                    case rel => exact ⟨q + 1, by omega, by go_num, Kv9, S' ++ [1], lv ++ [⟨nx, xm, xx, run, RA, rc, none, 0⟩], A9, c9, by rw [List.length_append]; rfl, by have := HLEN0.out; rw [List.length_append]; show lv.length + 1 ≤ _; omega, HL9.out⟩
                    case measure => simp [intOf]; omega
                  · have HFE : Hid (1 + S'.length = 1099511627777) := Lib.hid (by have := HLV.out.ap.top; omega)
                    clear hfu
                    go_wp2_with fail
                    refine (ap_full HLV.out.ap HFE.out).mono ?_
                    rintro e w6 ⟨rfl, rfl⟩
                    go_wp2_with fail
                    go_roundw
                    case rel => exact ⟨q + 1, by omega, by go_num, Kv, S', lv, A2, c2, rfl, HLEN.out, HLV.out⟩
                    case measure => simp [intOf]; omega
                · go_wp2_with fail
                  generalize (wr.alloc (.cells #[.int .u8 (d : Int), .int .u64 (y : Int)] 62)) = V at *
                  generalize wr.heap.size = gO at *
                  clear x0 x1 hd0
                  refine Reg.wp_region_inv_lit (by kernel_rfl) (by kernel_rfl) (fun D vals W => Reg.Fx (fun k9 => ([some (.pointer (some ⟨PB, 0, none⟩)), some (.pointer (some ⟨PB, 0, none⟩)), some (.pointer (some ⟨PB, 0, none⟩)), some (.pointer (some ⟨P, 0, none⟩)), some (.pointer (some ⟨gO, 1, none⟩)), some (.int .u64 (y : Int)), some (.int .u64 (y60 : Int)), none] : List (Option Value)).getD k9 none) D vals ∧ (D 7 = false → W = V.drew) ∧ (D 7 = true → AP w1 W Kv P Q 1 (endS 1 S' y60 3) S ∧ KeepK Kv V.drew W) ∧ (D 7 = true → D 3 = true) ∧ (D 7 = true → D 6 = true) ∧ (D 6 = true → D 5 = true)) ⟨Reg.Fx.init _ _, fun _ => rfl, nofun, nofun, nofun, nofun⟩ (fun Q' => ?_) ?_
                  · refine Reg.Steps.cons (k' := 1) rfl ?_ ?_
                    · intro D vals a W hR hd hde ev K' hK
                      have x7 : a.tmps[7]? = some (.pointer (some ⟨PB, 0, none⟩)) := (ev.out 7 (by kernel_rfl)).trans rfl
                      clear hde ev hd
                      go_simp
                      exact hK _ _ ⟨hR.1.step (.inr rfl), hR.2⟩
                    refine Reg.Steps.cons (k' := 2) rfl ?_ ?_
                    · intro D vals a W hR hd hde ev K' hK
                      have d0 := Reg.dep hde 0 rfl
                      have x135 : a.tmps[135]? = some (.pointer (some ⟨PB, 0, none⟩)) := ev.got hR.1 0 135 _ rfl rfl d0
                      clear hde ev hd
                      go_simp
                      exact hK _ _ ⟨hR.1.step (.inr rfl), hR.2⟩
                    refine Reg.Steps.cons (k' := 3) rfl ?_ ?_
                    · intro D vals a W hR hd hde ev K' hK
                      have d1 := Reg.dep hde 1 rfl
                      have x136 : a.tmps[136]? = some (.pointer (some ⟨PB, 0, none⟩)) := ev.got hR.1 1 136 _ rfl rfl d1
                      clear hde ev hd
                      go_simp
                      exact hK _ _ ⟨hR.1.step (.inr rfl), hR.2⟩
                    refine Reg.Steps.cons (k' := 4) rfl ?_ ?_
                    · intro D vals a W hR hd hde ev K' hK
                      have d2 := Reg.dep hde 2 rfl
                      have x137 : a.tmps[137]? = some (.pointer (some ⟨PB, 0, none⟩)) := ev.got hR.1 2 137 _ rfl rfl d2
                      have h7 : D 7 = false := by cases h : D 7 with
                        | false => rfl
                        | true => exact absurd (hR.2.2.2.1 h) (by rw [hd]; simp)
                      have hW := hR.2.1 h7
                      have q0 : W.cell? ⟨PB, 0, none⟩ = some (.pointer (some ⟨P, 0, none⟩)) := by rw [hW]; exact HPBV.out.cell 0
                      clear hW h7
                      clear hde ev hd
                      go_simp
                      exact hK _ _ ⟨hR.1.step (.inr rfl), ⟨hR.2.1, hR.2.2.1, fun _ => rfl, hR.2.2.2.2.1, hR.2.2.2.2.2⟩⟩
                    refine Reg.Steps.cons (k' := 5) rfl ?_ ?_
                    · intro D vals a W hR hd hde ev K' hK
                      have x18 : a.tmps[18]? = some (.pointer (some ⟨gO, 0, none⟩)) := (ev.out 18 (by kernel_rfl)).trans rfl
                      clear hde ev hd
                      go_simp
                      exact hK _ _ ⟨hR.1.step (.inr rfl), hR.2⟩
                    refine Reg.Steps.cons (k' := 6) rfl ?_ ?_
                    · intro D vals a W hR hd hde ev K' hK
                      have d4 := Reg.dep hde 4 rfl
                      have x139 : a.tmps[139]? = some (.pointer (some ⟨gO, 1, none⟩)) := ev.got hR.1 4 139 _ rfl rfl d4
                      have h7 : D 7 = false := by cases h : D 7 with
                        | false => rfl
                        | true => exact absurd (hR.2.2.2.2.2 (hR.2.2.2.2.1 h)) (by rw [hd]; simp)
                      have hW := hR.2.1 h7
                      have q0 : W.cell? ⟨gO, 1, none⟩ = some (.int .u64 (y : Int)) := by rw [hW]; exact HKO.out.cell 1
                      clear hW h7
                      clear hde ev hd
                      go_simp
                      exact hK _ _ ⟨hR.1.step (.inr rfl), ⟨hR.2.1, hR.2.2.1, hR.2.2.2.1, hR.2.2.2.2.1, fun _ => rfl⟩⟩
                    refine Reg.Steps.cons (k' := 7) rfl ?_ ?_
                    · intro D vals a W hR hd hde ev K' hK
                      have d5 := Reg.dep hde 5 rfl
                      have x140 : a.tmps[140]? = some (.int .u64 (y : Int)) := ev.got hR.1 5 140 _ rfl rfl d5
                      clear hde ev hd
                      go_simp
                      exact hK _ _ ⟨hR.1.step (.inr rfl), ⟨hR.2.1, hR.2.2.1, hR.2.2.2.1, fun _ => rfl, fun _ => d5⟩⟩
                    refine Reg.Steps.cons (k' := 8) rfl ?_ ?_
                    · intro D vals a W hR hd hde ev K' hK
                      have d3 := Reg.dep hde 3 rfl
                      have x138 : a.tmps[138]? = some (.pointer (some ⟨P, 0, none⟩)) := ev.got hR.1 3 138 _ rfl rfl d3
                      have d6 := Reg.dep hde 6 rfl
                      have x141 : a.tmps[141]? = some (.int .u64 (y60 : Int)) := ev.got hR.1 6 141 _ rfl rfl d6
                      have hW := hR.2.1 hd
                      have CC := Lib.hid (ap_abort (show AP w1 V.drew Kv P Q 1 S' S from HLV.out.ap.drewN 1) (x := y60) (by omega))
                      rw [← hW] at CC
                      have HW := Lib.hid hW
                      have HR1 := Lib.hid hR
                      clear hde ev hd hR hW
                      go_simp
                      refine CC.out.mono ?_
                      rintro e W1 ⟨rfl, ha, hk⟩
                      exact hK _ _ ⟨HR1.out.1.step (.inl rfl), nofun, fun _ => ⟨ha, by have h := hk; rw [HW.out] at h; exact h⟩, fun _ => d3, fun _ => d6, HR1.out.2.2.2.2.2⟩
                    exact Reg.Steps.nil
                  · intro D vals W2 hD hR
                    obtain ⟨ha, hk⟩ := hR.2.2.1 (hD 7 (by decide))
                    have HL7 := Lib.hid (HLV.out.goes ha (fun g hg => hk g hg) (st_ok_end HLV.out.ok 1 y60 (by omega)) (later_end S' y60 3))
                    clear hR hD ha hk
                    simp only [Reg.fin, Act.put, List.setIfInBounds_toArray, List.set_cons_zero, List.set_cons_succ]
                    generalize vals 0 = z0; generalize vals 1 = z1; generalize vals 2 = z2; generalize vals 3 = z3; generalize vals 4 = z4; generalize vals 5 = z5; generalize vals 6 = z6; generalize vals 7 = z7
                    clear vals
                    go_wp2_with fail
                    go_roundw
                    case rel => exact ⟨q + 1, by omega, by go_num, Kv, endS 1 S' y60 3, lv, A2, c2, rfl, HLEN.out, HL7.out⟩
                    case measure => simp [intOf]; omega
                · go_wp2_with fail
                  generalize (wr.alloc (.cells #[.int .u8 (d : Int), .int .u64 (y : Int)] 62)) = V at *
                  generalize wr.heap.size = gO at *
                  clear x0 x1 hd0
                  refine Reg.wp_region_inv_lit (by kernel_rfl) (by kernel_rfl) (fun D vals W => Reg.Fx (fun k9 => ([some (.pointer (some ⟨PB, 0, none⟩)), some (.pointer (some ⟨PB, 0, none⟩)), some (.pointer (some ⟨PB, 0, none⟩)), some (.pointer (some ⟨P, 0, none⟩)), some (.pointer (some ⟨gO, 1, none⟩)), some (.int .u64 (y : Int)), some (.int .u64 (y60 : Int)), none] : List (Option Value)).getD k9 none) D vals ∧ (D 7 = false → W = V.drew) ∧ (D 7 = true → AP w1 W Kv P Q 1 (endS 1 S' y60 2) S ∧ KeepK Kv V.drew W) ∧ (D 7 = true → D 3 = true) ∧ (D 7 = true → D 6 = true) ∧ (D 6 = true → D 5 = true)) ⟨Reg.Fx.init _ _, fun _ => rfl, nofun, nofun, nofun, nofun⟩ (fun Q' => ?_) ?_
                  · refine Reg.Steps.cons (k' := 1) rfl ?_ ?_
                    · intro D vals a W hR hd hde ev K' hK
                      have x7 : a.tmps[7]? = some (.pointer (some ⟨PB, 0, none⟩)) := (ev.out 7 (by kernel_rfl)).trans rfl
                      clear hde ev hd
                      go_simp
                      exact hK _ _ ⟨hR.1.step (.inr rfl), hR.2⟩
                    refine Reg.Steps.cons (k' := 2) rfl ?_ ?_
                    · intro D vals a W hR hd hde ev K' hK
                      have d0 := Reg.dep hde 0 rfl
                      have x104 : a.tmps[104]? = some (.pointer (some ⟨PB, 0, none⟩)) := ev.got hR.1 0 104 _ rfl rfl d0
                      clear hde ev hd
                      go_simp
                      exact hK _ _ ⟨hR.1.step (.inr rfl), hR.2⟩
                    refine Reg.Steps.cons (k' := 3) rfl ?_ ?_
                    · intro D vals a W hR hd hde ev K' hK
                      have d1 := Reg.dep hde 1 rfl
                      have x105 : a.tmps[105]? = some (.pointer (some ⟨PB, 0, none⟩)) := ev.got hR.1 1 105 _ rfl rfl d1
                      clear hde ev hd
                      go_simp
                      exact hK _ _ ⟨hR.1.step (.inr rfl), hR.2⟩
                    refine Reg.Steps.cons (k' := 4) rfl ?_ ?_
                    · intro D vals a W hR hd hde ev K' hK
                      have d2 := Reg.dep hde 2 rfl
                      have x106 : a.tmps[106]? = some (.pointer (some ⟨PB, 0, none⟩)) := ev.got hR.1 2 106 _ rfl rfl d2
                      have h7 : D 7 = false := by cases h : D 7 with
                        | false => rfl
                        | true => exact absurd (hR.2.2.2.1 h) (by rw [hd]; simp)
                      have hW := hR.2.1 h7
                      have q0 : W.cell? ⟨PB, 0, none⟩ = some (.pointer (some ⟨P, 0, none⟩)) := by rw [hW]; exact HPBV.out.cell 0
                      clear hW h7
                      clear hde ev hd
                      go_simp
                      exact hK _ _ ⟨hR.1.step (.inr rfl), ⟨hR.2.1, hR.2.2.1, fun _ => rfl, hR.2.2.2.2.1, hR.2.2.2.2.2⟩⟩
                    refine Reg.Steps.cons (k' := 5) rfl ?_ ?_
                    · intro D vals a W hR hd hde ev K' hK
                      have x18 : a.tmps[18]? = some (.pointer (some ⟨gO, 0, none⟩)) := (ev.out 18 (by kernel_rfl)).trans rfl
                      clear hde ev hd
                      go_simp
                      exact hK _ _ ⟨hR.1.step (.inr rfl), hR.2⟩
                    refine Reg.Steps.cons (k' := 6) rfl ?_ ?_
                    · intro D vals a W hR hd hde ev K' hK
                      have d4 := Reg.dep hde 4 rfl
                      have x108 : a.tmps[108]? = some (.pointer (some ⟨gO, 1, none⟩)) := ev.got hR.1 4 108 _ rfl rfl d4
                      have h7 : D 7 = false := by cases h : D 7 with
                        | false => rfl
                        | true => exact absurd (hR.2.2.2.2.2 (hR.2.2.2.2.1 h)) (by rw [hd]; simp)
                      have hW := hR.2.1 h7
                      have q0 : W.cell? ⟨gO, 1, none⟩ = some (.int .u64 (y : Int)) := by rw [hW]; exact HKO.out.cell 1
                      clear hW h7
                      clear hde ev hd
                      go_simp
                      exact hK _ _ ⟨hR.1.step (.inr rfl), ⟨hR.2.1, hR.2.2.1, hR.2.2.2.1, hR.2.2.2.2.1, fun _ => rfl⟩⟩
                    refine Reg.Steps.cons (k' := 7) rfl ?_ ?_
                    · intro D vals a W hR hd hde ev K' hK
                      have d5 := Reg.dep hde 5 rfl
                      have x109 : a.tmps[109]? = some (.int .u64 (y : Int)) := ev.got hR.1 5 109 _ rfl rfl d5
                      clear hde ev hd
                      go_simp
                      exact hK _ _ ⟨hR.1.step (.inr rfl), ⟨hR.2.1, hR.2.2.1, hR.2.2.2.1, fun _ => rfl, fun _ => d5⟩⟩
                    refine Reg.Steps.cons (k' := 8) rfl ?_ ?_
                    · intro D vals a W hR hd hde ev K' hK
                      have d3 := Reg.dep hde 3 rfl
                      have x107 : a.tmps[107]? = some (.pointer (some ⟨P, 0, none⟩)) := ev.got hR.1 3 107 _ rfl rfl d3
                      have d6 := Reg.dep hde 6 rfl
                      have x110 : a.tmps[110]? = some (.int .u64 (y60 : Int)) := ev.got hR.1 6 110 _ rfl rfl d6
                      have hW := hR.2.1 hd
                      have CC := Lib.hid (ap_commit (show AP w1 V.drew Kv P Q 1 S' S from HLV.out.ap.drewN 1) y60)
                      rw [← hW] at CC
                      have HW := Lib.hid hW
                      have HR1 := Lib.hid hR
                      clear hde ev hd hR hW
                      go_simp
                      refine CC.out.mono ?_
                      rintro e W1 ⟨rfl, ha, hk⟩
                      exact hK _ _ ⟨HR1.out.1.step (.inl rfl), nofun, fun _ => ⟨ha, by have h := hk; rw [HW.out] at h; exact h⟩, fun _ => d3, fun _ => d6, HR1.out.2.2.2.2.2⟩
                    exact Reg.Steps.nil
                  · intro D vals W2 hD hR
                    obtain ⟨ha, hk⟩ := hR.2.2.1 (hD 7 (by decide))
                    have HL7 := Lib.hid (HLV.out.goes ha (fun g hg => hk g hg) (st_ok_end HLV.out.ok 1 y60 (by omega)) (later_end S' y60 2))
                    clear hR hD ha hk
                    simp only [Reg.fin, Act.put, List.setIfInBounds_toArray, List.set_cons_zero, List.set_cons_succ]
                    generalize vals 0 = z0; generalize vals 1 = z1; generalize vals 2 = z2; generalize vals 3 = z3; generalize vals 4 = z4; generalize vals 5 = z5; generalize vals 6 = z6; generalize vals 7 = z7
                    clear vals
                    go_wp2_with fail
                    go_roundw
                    case rel => exact ⟨q + 1, by omega, by go_num, Kv, endS 1 S' y60 2, lv, A2, c2, rfl, HLEN.out, HL7.out⟩
                    case measure => simp [intOf]; omega
            · obtain rfl : bn = q := by omega
              have HLX := HLV0
              have HLS4 := Lib.hid (show LS w1 w2 wr K Kv P Q S S' lv A2 c2 dl A3 c3 from HLX.out)
              obtain ⟨m2, hm2⟩ : ∃ m2, lv.length = m2 := ⟨_, rfl⟩
              have HM2 := Lib.hid hm2
              have HCL : Hid (Sl wr (wr).heap.size 4 A2 m2 c2 (cas lv)) := Lib.hid (by
                have h := HLS4.out.own
                rw [hm2] at h
                obtain ⟨A', c', e, hs⟩ := Sl.of_own h
                injection e with e1 _ e3
                subst e1 e3
                exact hs)
              have HCD : Hid (Sl wr (wr).heap.size 6 A3 m3 c3 (tups dl)) := Lib.hid (by
                have h := HLS4.out.dead
                rw [HM3.out] at h
                obtain ⟨A', c', e, hs⟩ := Sl.of_own h
                injection e with e1 _ e3
                subst e1 e3
                exact hs)
              rw [hm2]
              have hle5 := HCL.out.le
              have hcap5 := HCL.out.cap
              have hle6 := HCD.out.le
              have hcap6 := HCD.out.cap
              unfold maxLen at hcap5 hcap6
              clear hm2
              go_wp2_with fail
              generalize hW4 : wr = W4 at *
              clear hW4
              have HPC4 : Hid (∀ W, Below W4.heap.size W4 W → W.cell? ⟨PB, 0, none⟩ = some (.pointer (some ⟨P, 0, none⟩))) := Lib.hid (fun W h => cell_keep h (by
                have hb : Blk W4 PB 35 _ := (HLS4.out.k1 PB HPS.out.kPB).2.trans HPS.out.pb
                exact hb.cell 0))
              go_loopw [146] (fun i wo => ∃ t : Nat, t ≤ m2 ∧ i = .int .i64 t ∧ Below W4.heap.size W4 wo) (fun i _ => m2 - (intOf i).toNat)
              case atStart => exact ⟨0, by omega, rfl, Below.refl _ _⟩
              case round =>
                obtain ⟨t, ht, rfl, hbo⟩ := hrel
                have HBO := Lib.hid hbo
                clear hbo
                by_cases htp : t < m2
                · have htp' : (t : Int) < m2 := by omega
                  obtain ⟨sp, hsp⟩ : ∃ sp, lv[t]? = some sp := ⟨_, List.getElem?_eq_getElem (by rw [HM2.out]; exact htp)⟩
                  obtain ⟨gL, hgL⟩ : ∃ gL, A2 = some ⟨gL, 0, none⟩ := by
                    obtain ⟨g, cap, e, _⟩ := World.ownsRow.form HLS4.out.own (by rw [HM2.out]; omega)
                    injection e with e1
                    exact ⟨g, e1⟩
                  subst hgL
                  obtain ⟨ad3, hA3, y0, y1, y2, y3⟩ := cas_cells HCL.out HBO.out hsp HM2.out
                  injection hA3 with hA3
                  subst hA3
                  simp only [add_flat] at y0 y1 y2 y3
                  have HEL := Lib.hid (HLS4.out.el sp (List.mem_of_getElem? hsp))
                  clear hsp
                  obtain ⟨ow, xm, xx, run, RA, rc, RB, rd⟩ := sp
                  obtain ⟨rn, hrn⟩ : ∃ rn, run.length = rn := ⟨_, rfl⟩
                  have HVIS0 : Hid (∀ W, Below W4.heap.size W4 W → ∀ (a b : Nat), (a, b) ∈ dl → a ≠ ow → b ≠ ow → Calls Try.prog 21 #[.pointer (some ⟨P, 0, none⟩), .agg #[.int .u64 (ow : Int), .int .u64 (xm : Int), .int .u64 (xx : Int), .slice RA rn rc], .agg #[.int .u64 0, .int .u64 (a : Int), .int .u64 (b : Int), .int .i64 0, .int .i64 0, .slice none 0 0]] W fun e w' => e = .returned (.bool false) ∧ Below W.heap.size W w') := Lib.hid (fun W h a b hab h1 h2 => by
                    obtain ⟨F, hal⟩ := (HLS4.out.ap.below h).1.al
                    have hab2 := HDL.out (a, b) hab
                    have := visible_any hal HLS4.out.ok (own := ow) (xmin := xm) (xmax := xx) (Sl.on HEL.out.1 h) (a := a) (b := b) (by have := hab2.1; simp at this; omega) (by have := hab2.2; simp at this; omega)
                    rw [nv_vis (s := ⟨ow, xm, xx, run, RA, rc, RB, rd⟩) HEL.out.2.2 HLS4.out.lat hab h1 h2] at this
                    rw [← hrn]
                    exact this)
                  simp only [hrn] at y3
                  clear hrn HEL
                  go_wp2_with fail
                  clear y0 y1 y2 y3
                  have HB4 : Hid (Below W4.heap.size W4 (wr.alloc (.cells #[.int .u64 (ow : Int), .int .u64 (xm : Int), .int .u64 (xx : Int), .slice RA rn rc] 48))) := Lib.hid (HBO.out.alloc HBO.out.size _)
                  have HK4 : Hid (Blk (wr.alloc (.cells #[.int .u64 (ow : Int), .int .u64 (xm : Int), .int .u64 (xx : Int), .slice RA rn rc] 48)) wr.heap.size 48 #[.int .u64 (ow : Int), .int .u64 (xm : Int), .int .u64 (xx : Int), .slice RA rn rc]) := Lib.hid (Blk.new _ _ _)
                  generalize (wr.alloc (.cells #[.int .u64 (ow : Int), .int .u64 (xm : Int), .int .u64 (xx : Int), .slice RA rn rc] 48)) = W5 at *
                  generalize wr.heap.size = gS at *
                  clear HBO
                  go_loopw [152] (fun i wi => ∃ j : Nat, j ≤ m3 ∧ i = .int .i64 j ∧ Below W5.heap.size W5 wi) (fun i _ => m3 - (intOf i).toNat)
                  case atStart => exact ⟨0, by omega, rfl, Below.refl _ _⟩
                  case round =>
                    obtain ⟨j, hj, rfl, hbi⟩ := hrel
                    have HBJ := Lib.hid hbi
                    clear hbi
                    by_cases hjm : j < m3
                    · have hjm' : (j : Int) < m3 := by omega
                      obtain ⟨⟨ta, tb⟩, htj⟩ : ∃ x, dl[j]? = some x := ⟨_, List.getElem?_eq_getElem (by rw [HM3.out]; exact hjm)⟩
                      obtain ⟨gD, hgD⟩ : ∃ gD, A3 = some ⟨gD, 0, none⟩ := by
                        obtain ⟨g, cap, e, _⟩ := World.ownsRow.form HLS4.out.dead (by rw [HM3.out]; omega)
                        injection e with e1
                        exact ⟨g, e1⟩
                      subst hgD
                      obtain ⟨ad2, hA2, x0, x1, x2, x3, x4, x5⟩ := tup_cells HCD.out (HB4.out.trans (HBJ.out.mono HB4.out.size)) htj HM3.out
                      injection hA2 with hA2
                      subst hA2
                      simp only [add_flat] at x0 x1 x2 x3 x4 x5
                      have HTJ := Lib.hid (List.mem_of_getElem? htj)
                      clear htj
                      go_wp2_with fail
                      clear x0 x1 x2 x3 x4 x5
                      have HB6 : Hid (Below W5.heap.size W5 (wr.alloc (.cells #[.int .u64 0, .int .u64 (ta : Int), .int .u64 (tb : Int), .int .i64 0, .int .i64 0, .slice none 0 0] 42))) := Lib.hid (HBJ.out.alloc HBJ.out.size _)
                      have HKT : Hid (Blk (wr.alloc (.cells #[.int .u64 0, .int .u64 (ta : Int), .int .u64 (tb : Int), .int .i64 0, .int .i64 0, .slice none 0 0] 42)) wr.heap.size 42 #[.int .u64 0, .int .u64 (ta : Int), .int .u64 (tb : Int), .int .i64 0, .int .i64 0, .slice none 0 0]) := Lib.hid (Blk.new _ _ _)
                      generalize (wr.alloc (.cells #[.int .u64 0, .int .u64 (ta : Int), .int .u64 (tb : Int), .int .i64 0, .int .i64 0, .slice none 0 0] 42)) = V at *
                      generalize wr.heap.size = gT at *
                      have HKS := Lib.hid (HK4.out.below HB6.out HK4.out.lt)
                      have HB4V := Lib.hid (HB4.out.trans (HB6.out.mono HB4.out.size))
                      have HPC : Hid (∀ W, Below V.heap.size V W → W.cell? ⟨PB, 0, none⟩ = some (.pointer (some ⟨P, 0, none⟩))) := Lib.hid (fun W h => HPC4.out W (HB4V.out.trans (h.mono HB4V.out.size)))
                      by_cases h1 : ta = ow
                      · have hn1 : (ta != ow) = false := by rw [bne, beq_iff_eq.2 h1]; rfl
                        have hi1 : ((ta : Int) != (ow : Int)) = false := by rw [h1]; simp
                        have hn2 : (tb != ow) = true ∨ True := .inr trivial
                        clear h1 hn2
                        refine Reg.wp_region_inv_lit (by kernel_rfl) (by kernel_rfl) (fun D vals W => Reg.Fx (fun k9 => ([some (.pointer (some ⟨gT, 1, none⟩)), some (.int .u64 (ta : Int)), some (.pointer (some ⟨gS, 0, none⟩)), some (.int .u64 (ow : Int)), some (.bool false), some (.bool false), some (undef), some (undef), some (undef), some (undef), some (undef), some (.bool false), some (.bool false), some (undef), some (undef), some (undef), some (undef), some (undef), some (undef), some (undef), some (.bool false)] : List (Option Value)).getD k9 none) D vals ∧ Below V.heap.size V W) ⟨Reg.Fx.init _ _, ⟨rfl, rfl, rfl, Nat.le_refl _, fun _ _ => rfl⟩⟩ (fun Q' => ?_) ?_
                        · refine Reg.Steps.cons (k' := 1) rfl ?_ ?_
                          · intro D vals a W hR hd hde ev K' hK
                            have HB := hR.2
                            have x24 : a.tmps[24]? = some (.pointer (some ⟨gT, 0, none⟩)) := (ev.out 24 (by kernel_rfl)).trans rfl
                            clear hde ev hd HB
                            go_simp
                            exact hK _ _ ⟨hR.1.step (.inr rfl), hR.2⟩
                          refine Reg.Steps.cons (k' := 2) rfl ?_ ?_
                          · intro D vals a W hR hd hde ev K' hK
                            have HB := hR.2
                            have d0 := Reg.dep hde 0 rfl
                            have x156 : a.tmps[156]? = some (.pointer (some ⟨gT, 1, none⟩)) := ev.got hR.1 0 156 _ rfl rfl d0
                            have q := (HKT.out.below HB HKT.out.lt).cell 1
                            clear hde ev hd HB
                            go_simp
                            exact hK _ _ ⟨hR.1.step (.inr rfl), hR.2⟩
                          refine Reg.Steps.cons (k' := 3) rfl ?_ ?_
                          · intro D vals a W hR hd hde ev K' hK
                            have HB := hR.2
                            have x22 : a.tmps[22]? = some (.pointer (some ⟨gS, 0, none⟩)) := (ev.out 22 (by kernel_rfl)).trans rfl
                            clear hde ev hd HB
                            go_simp
                            exact hK _ _ ⟨hR.1.step (.inr rfl), hR.2⟩
                          refine Reg.Steps.cons (k' := 4) rfl ?_ ?_
                          · intro D vals a W hR hd hde ev K' hK
                            have HB := hR.2
                            have d2 := Reg.dep hde 2 rfl
                            have x158 : a.tmps[158]? = some (.pointer (some ⟨gS, 0, none⟩)) := ev.got hR.1 2 158 _ rfl rfl d2
                            have q := (HKS.out.below HB HKS.out.lt).cell 0
                            clear hde ev hd HB
                            go_simp
                            exact hK _ _ ⟨hR.1.step (.inr rfl), hR.2⟩
                          refine Reg.Steps.cons (k' := 5) rfl ?_ ?_
                          · intro D vals a W hR hd hde ev K' hK
                            have HB := hR.2
                            have d1 := Reg.dep hde 1 rfl
                            have x157 : a.tmps[157]? = some (.int .u64 (ta : Int)) := ev.got hR.1 1 157 _ rfl rfl d1
                            have d3 := Reg.dep hde 3 rfl
                            have x159 : a.tmps[159]? = some (.int .u64 (ow : Int)) := ev.got hR.1 3 159 _ rfl rfl d3
                            clear hde ev hd HB
                            go_simp
                            exact hK _ _ ⟨hR.1.step (.inr rfl), hR.2⟩
                          refine Reg.Steps.cons (k' := 6) rfl ?_ ?_
                          · intro D vals a W hR hd hde ev K' hK
                            have HB := hR.2
                            have d4 := Reg.dep hde 4 rfl
                            have x160 : a.tmps[160]? = some (.bool false) := ev.got hR.1 4 160 _ rfl rfl d4
                            clear hde ev hd HB
                            go_simp
                            exact hK _ _ ⟨hR.1.step (.inr rfl), hR.2⟩
                          refine Reg.Steps.cons (k' := 7) rfl ?_ ?_
                          · intro D vals a W hR hd hde ev K' hK
                            have HB := hR.2
                            have dg := Reg.dep hde 5 rfl
                            have xg : a.tmps[161]? = some (.bool false) := ev.got hR.1 5 161 _ rfl rfl dg
                            rw [if_neg (Reg.wanted_not rfl (Reg.yielded_of (t := 161) rfl xg) (by decide))]
                            exact hK _ _ ⟨hR.1.step (.inr rfl), HB⟩
                          refine Reg.Steps.cons (k' := 8) rfl ?_ ?_
                          · intro D vals a W hR hd hde ev K' hK
                            have HB := hR.2
                            have dg := Reg.dep hde 5 rfl
                            have xg : a.tmps[161]? = some (.bool false) := ev.got hR.1 5 161 _ rfl rfl dg
                            rw [if_neg (Reg.wanted_not rfl (Reg.yielded_of (t := 161) rfl xg) (by decide))]
                            exact hK _ _ ⟨hR.1.step (.inr rfl), HB⟩
                          refine Reg.Steps.cons (k' := 9) rfl ?_ ?_
                          · intro D vals a W hR hd hde ev K' hK
                            have HB := hR.2
                            have dg := Reg.dep hde 5 rfl
                            have xg : a.tmps[161]? = some (.bool false) := ev.got hR.1 5 161 _ rfl rfl dg
                            rw [if_neg (Reg.wanted_not rfl (Reg.yielded_of (t := 161) rfl xg) (by decide))]
                            exact hK _ _ ⟨hR.1.step (.inr rfl), HB⟩
                          refine Reg.Steps.cons (k' := 10) rfl ?_ ?_
                          · intro D vals a W hR hd hde ev K' hK
                            have HB := hR.2
                            have dg := Reg.dep hde 5 rfl
                            have xg : a.tmps[161]? = some (.bool false) := ev.got hR.1 5 161 _ rfl rfl dg
                            rw [if_neg (Reg.wanted_not rfl (Reg.yielded_of (t := 161) rfl xg) (by decide))]
                            exact hK _ _ ⟨hR.1.step (.inr rfl), HB⟩
                          refine Reg.Steps.cons (k' := 11) rfl ?_ ?_
                          · intro D vals a W hR hd hde ev K' hK
                            have HB := hR.2
                            have dg := Reg.dep hde 5 rfl
                            have xg : a.tmps[161]? = some (.bool false) := ev.got hR.1 5 161 _ rfl rfl dg
                            rw [if_neg (Reg.wanted_not rfl (Reg.yielded_of (t := 161) rfl xg) (by decide))]
                            exact hK _ _ ⟨hR.1.step (.inr rfl), HB⟩
                          refine Reg.Steps.cons (k' := 12) rfl ?_ ?_
                          · intro D vals a W hR hd hde ev K' hK
                            have HB := hR.2
                            have d5 := Reg.dep hde 5 rfl
                            have x161 : a.tmps[161]? = some (.bool false) := ev.got hR.1 5 161 _ rfl rfl d5
                            have d10 := Reg.dep hde 10 rfl
                            have x166 : a.tmps[166]? = some (undef) := ev.got hR.1 10 166 _ rfl rfl d10
                            clear hde ev hd HB
                            go_simp
                            exact hK _ _ ⟨hR.1.step (.inr rfl), hR.2⟩
                          refine Reg.Steps.cons (k' := 13) rfl ?_ ?_
                          · intro D vals a W hR hd hde ev K' hK
                            have HB := hR.2
                            have d11 := Reg.dep hde 11 rfl
                            have x167 : a.tmps[167]? = some (.bool false) := ev.got hR.1 11 167 _ rfl rfl d11
                            clear hde ev hd HB
                            go_simp
                            exact hK _ _ ⟨hR.1.step (.inr rfl), hR.2⟩
                          refine Reg.Steps.cons (k' := 14) rfl ?_ ?_
                          · intro D vals a W hR hd hde ev K' hK
                            have HB := hR.2
                            have dg := Reg.dep hde 12 rfl
                            have xg : a.tmps[168]? = some (.bool false) := ev.got hR.1 12 168 _ rfl rfl dg
                            rw [if_neg (Reg.wanted_not rfl (Reg.yielded_of (t := 168) rfl xg) (by decide))]
                            exact hK _ _ ⟨hR.1.step (.inr rfl), HB⟩
                          refine Reg.Steps.cons (k' := 15) rfl ?_ ?_
                          · intro D vals a W hR hd hde ev K' hK
                            have HB := hR.2
                            have dg := Reg.dep hde 12 rfl
                            have xg : a.tmps[168]? = some (.bool false) := ev.got hR.1 12 168 _ rfl rfl dg
                            rw [if_neg (Reg.wanted_not rfl (Reg.yielded_of (t := 168) rfl xg) (by decide))]
                            exact hK _ _ ⟨hR.1.step (.inr rfl), HB⟩
                          refine Reg.Steps.cons (k' := 16) rfl ?_ ?_
                          · intro D vals a W hR hd hde ev K' hK
                            have HB := hR.2
                            have dg := Reg.dep hde 12 rfl
                            have xg : a.tmps[168]? = some (.bool false) := ev.got hR.1 12 168 _ rfl rfl dg
                            rw [if_neg (Reg.wanted_not rfl (Reg.yielded_of (t := 168) rfl xg) (by decide))]
                            exact hK _ _ ⟨hR.1.step (.inr rfl), HB⟩
                          refine Reg.Steps.cons (k' := 17) rfl ?_ ?_
                          · intro D vals a W hR hd hde ev K' hK
                            have HB := hR.2
                            have dg := Reg.dep hde 12 rfl
                            have xg : a.tmps[168]? = some (.bool false) := ev.got hR.1 12 168 _ rfl rfl dg
                            rw [if_neg (Reg.wanted_not rfl (Reg.yielded_of (t := 168) rfl xg) (by decide))]
                            exact hK _ _ ⟨hR.1.step (.inr rfl), HB⟩
                          refine Reg.Steps.cons (k' := 18) rfl ?_ ?_
                          · intro D vals a W hR hd hde ev K' hK
                            have HB := hR.2
                            have dg := Reg.dep hde 12 rfl
                            have xg : a.tmps[168]? = some (.bool false) := ev.got hR.1 12 168 _ rfl rfl dg
                            rw [if_neg (Reg.wanted_not rfl (Reg.yielded_of (t := 168) rfl xg) (by decide))]
                            exact hK _ _ ⟨hR.1.step (.inr rfl), HB⟩
                          refine Reg.Steps.cons (k' := 19) rfl ?_ ?_
                          · intro D vals a W hR hd hde ev K' hK
                            have HB := hR.2
                            have dg := Reg.dep hde 12 rfl
                            have xg : a.tmps[168]? = some (.bool false) := ev.got hR.1 12 168 _ rfl rfl dg
                            rw [if_neg (Reg.wanted_not rfl (Reg.yielded_of (t := 168) rfl xg) (by decide))]
                            exact hK _ _ ⟨hR.1.step (.inr rfl), HB⟩
                          refine Reg.Steps.cons (k' := 20) rfl ?_ ?_
                          · intro D vals a W hR hd hde ev K' hK
                            have HB := hR.2
                            have dg := Reg.dep hde 12 rfl
                            have xg : a.tmps[168]? = some (.bool false) := ev.got hR.1 12 168 _ rfl rfl dg
                            rw [if_neg (Reg.wanted_not rfl (Reg.yielded_of (t := 168) rfl xg) (by decide))]
                            exact hK _ _ ⟨hR.1.step (.inr rfl), HB⟩
                          refine Reg.Steps.cons (k' := 21) rfl ?_ ?_
                          · intro D vals a W hR hd hde ev K' hK
                            have HB := hR.2
                            have d12 := Reg.dep hde 12 rfl
                            have x168 : a.tmps[168]? = some (.bool false) := ev.got hR.1 12 168 _ rfl rfl d12
                            have d19 := Reg.dep hde 19 rfl
                            have x175 : a.tmps[175]? = some (undef) := ev.got hR.1 19 175 _ rfl rfl d19
                            clear hde ev hd HB
                            go_simp
                            exact hK _ _ ⟨hR.1.step (.inr rfl), hR.2⟩
                          exact Reg.Steps.nil
                        · intro D vals W2 hD hR
                          have hB2 := hR.2
                          have ev20 := hR.1 20 _ rfl (hD 20 (by decide))
                          clear hR hD
                          simp only [Reg.fin, Act.put, List.setIfInBounds_toArray, List.set_cons_zero, List.set_cons_succ, ev20]
                          clear ev20
                          generalize vals 0 = z0; generalize vals 1 = z1; generalize vals 2 = z2; generalize vals 3 = z3; generalize vals 4 = z4; generalize vals 5 = z5; generalize vals 6 = z6; generalize vals 7 = z7; generalize vals 8 = z8; generalize vals 9 = z9; generalize vals 10 = z10; generalize vals 11 = z11; generalize vals 12 = z12; generalize vals 13 = z13; generalize vals 14 = z14; generalize vals 15 = z15; generalize vals 16 = z16; generalize vals 17 = z17; generalize vals 18 = z18; generalize vals 19 = z19
                          clear vals
                          have HBF := Lib.hid (HB6.out.trans (hB2.mono HB6.out.size))
                          clear hB2
                          go_wp2_with fail
                          go_roundw
                          case rel => exact ⟨j + 1, by omega, by go_num, HBF.out⟩
                          case measure => simp [intOf]; omega
                      · have hn1 : (ta != ow) = true := by rw [bne, beq_eq_false_iff_ne.2 h1]; rfl
                        have hi1 : ((ta : Int) != (ow : Int)) = true := by rw [bne, beq_eq_false_iff_ne.2 (by omega)]; rfl
                        by_cases h2 : tb = ow
                        · have hn2 : (tb != ow) = false := by rw [bne, beq_iff_eq.2 h2]; rfl
                          have hi2 : ((tb : Int) != (ow : Int)) = false := by rw [h2]; simp
                          clear h1 h2
                          refine Reg.wp_region_inv_lit (by kernel_rfl) (by kernel_rfl) (fun D vals W => Reg.Fx (fun k9 => ([some (.pointer (some ⟨gT, 1, none⟩)), some (.int .u64 (ta : Int)), some (.pointer (some ⟨gS, 0, none⟩)), some (.int .u64 (ow : Int)), some (.bool true), some (.bool true), some (.pointer (some ⟨gT, 2, none⟩)), some (.int .u64 (tb : Int)), some (.pointer (some ⟨gS, 0, none⟩)), some (.int .u64 (ow : Int)), some (.bool false), some (.bool false), some (.bool false), some (undef), some (undef), some (undef), some (undef), some (undef), some (undef), some (undef), some (.bool false)] : List (Option Value)).getD k9 none) D vals ∧ Below V.heap.size V W) ⟨Reg.Fx.init _ _, ⟨rfl, rfl, rfl, Nat.le_refl _, fun _ _ => rfl⟩⟩ (fun Q' => ?_) ?_
                          · refine Reg.Steps.cons (k' := 1) rfl ?_ ?_
                            · intro D vals a W hR hd hde ev K' hK
                              have HB := hR.2
                              have x24 : a.tmps[24]? = some (.pointer (some ⟨gT, 0, none⟩)) := (ev.out 24 (by kernel_rfl)).trans rfl
                              clear hde ev hd HB
                              go_simp
                              exact hK _ _ ⟨hR.1.step (.inr rfl), hR.2⟩
                            refine Reg.Steps.cons (k' := 2) rfl ?_ ?_
                            · intro D vals a W hR hd hde ev K' hK
                              have HB := hR.2
                              have d0 := Reg.dep hde 0 rfl
                              have x156 : a.tmps[156]? = some (.pointer (some ⟨gT, 1, none⟩)) := ev.got hR.1 0 156 _ rfl rfl d0
                              have q := (HKT.out.below HB HKT.out.lt).cell 1
                              clear hde ev hd HB
                              go_simp
                              exact hK _ _ ⟨hR.1.step (.inr rfl), hR.2⟩
                            refine Reg.Steps.cons (k' := 3) rfl ?_ ?_
                            · intro D vals a W hR hd hde ev K' hK
                              have HB := hR.2
                              have x22 : a.tmps[22]? = some (.pointer (some ⟨gS, 0, none⟩)) := (ev.out 22 (by kernel_rfl)).trans rfl
                              clear hde ev hd HB
                              go_simp
                              exact hK _ _ ⟨hR.1.step (.inr rfl), hR.2⟩
                            refine Reg.Steps.cons (k' := 4) rfl ?_ ?_
                            · intro D vals a W hR hd hde ev K' hK
                              have HB := hR.2
                              have d2 := Reg.dep hde 2 rfl
                              have x158 : a.tmps[158]? = some (.pointer (some ⟨gS, 0, none⟩)) := ev.got hR.1 2 158 _ rfl rfl d2
                              have q := (HKS.out.below HB HKS.out.lt).cell 0
                              clear hde ev hd HB
                              go_simp
                              exact hK _ _ ⟨hR.1.step (.inr rfl), hR.2⟩
                            refine Reg.Steps.cons (k' := 5) rfl ?_ ?_
                            · intro D vals a W hR hd hde ev K' hK
                              have HB := hR.2
                              have d1 := Reg.dep hde 1 rfl
                              have x157 : a.tmps[157]? = some (.int .u64 (ta : Int)) := ev.got hR.1 1 157 _ rfl rfl d1
                              have d3 := Reg.dep hde 3 rfl
                              have x159 : a.tmps[159]? = some (.int .u64 (ow : Int)) := ev.got hR.1 3 159 _ rfl rfl d3
                              clear hde ev hd HB
                              go_simp
                              exact hK _ _ ⟨hR.1.step (.inr rfl), hR.2⟩
                            refine Reg.Steps.cons (k' := 6) rfl ?_ ?_
                            · intro D vals a W hR hd hde ev K' hK
                              have HB := hR.2
                              have d4 := Reg.dep hde 4 rfl
                              have x160 : a.tmps[160]? = some (.bool true) := ev.got hR.1 4 160 _ rfl rfl d4
                              clear hde ev hd HB
                              go_simp
                              exact hK _ _ ⟨hR.1.step (.inr rfl), hR.2⟩
                            refine Reg.Steps.cons (k' := 7) rfl ?_ ?_
                            · intro D vals a W hR hd hde ev K' hK
                              have HB := hR.2
                              have dg := Reg.dep hde 5 rfl
                              have xg : a.tmps[161]? = some (.bool true) := ev.got hR.1 5 161 _ rfl rfl dg
                              rw [if_pos (Reg.wanted_of rfl (Reg.yielded_of (t := 161) rfl xg))]
                              have x24 : a.tmps[24]? = some (.pointer (some ⟨gT, 0, none⟩)) := (ev.out 24 (by kernel_rfl)).trans rfl
                              clear hde ev hd HB
                              go_simp
                              exact hK _ _ ⟨hR.1.step (.inr rfl), hR.2⟩
                            refine Reg.Steps.cons (k' := 8) rfl ?_ ?_
                            · intro D vals a W hR hd hde ev K' hK
                              have HB := hR.2
                              have dg := Reg.dep hde 5 rfl
                              have xg : a.tmps[161]? = some (.bool true) := ev.got hR.1 5 161 _ rfl rfl dg
                              rw [if_pos (Reg.wanted_of rfl (Reg.yielded_of (t := 161) rfl xg))]
                              have d6 := Reg.dep hde 6 rfl
                              have x162 : a.tmps[162]? = some (.pointer (some ⟨gT, 2, none⟩)) := ev.got hR.1 6 162 _ rfl rfl d6
                              have q := (HKT.out.below HB HKT.out.lt).cell 2
                              clear hde ev hd HB
                              go_simp
                              exact hK _ _ ⟨hR.1.step (.inr rfl), hR.2⟩
                            refine Reg.Steps.cons (k' := 9) rfl ?_ ?_
                            · intro D vals a W hR hd hde ev K' hK
                              have HB := hR.2
                              have dg := Reg.dep hde 5 rfl
                              have xg : a.tmps[161]? = some (.bool true) := ev.got hR.1 5 161 _ rfl rfl dg
                              rw [if_pos (Reg.wanted_of rfl (Reg.yielded_of (t := 161) rfl xg))]
                              have x22 : a.tmps[22]? = some (.pointer (some ⟨gS, 0, none⟩)) := (ev.out 22 (by kernel_rfl)).trans rfl
                              clear hde ev hd HB
                              go_simp
                              exact hK _ _ ⟨hR.1.step (.inr rfl), hR.2⟩
                            refine Reg.Steps.cons (k' := 10) rfl ?_ ?_
                            · intro D vals a W hR hd hde ev K' hK
                              have HB := hR.2
                              have dg := Reg.dep hde 5 rfl
                              have xg : a.tmps[161]? = some (.bool true) := ev.got hR.1 5 161 _ rfl rfl dg
                              rw [if_pos (Reg.wanted_of rfl (Reg.yielded_of (t := 161) rfl xg))]
                              have d8 := Reg.dep hde 8 rfl
                              have x164 : a.tmps[164]? = some (.pointer (some ⟨gS, 0, none⟩)) := ev.got hR.1 8 164 _ rfl rfl d8
                              have q := (HKS.out.below HB HKS.out.lt).cell 0
                              clear hde ev hd HB
                              go_simp
                              exact hK _ _ ⟨hR.1.step (.inr rfl), hR.2⟩
                            refine Reg.Steps.cons (k' := 11) rfl ?_ ?_
                            · intro D vals a W hR hd hde ev K' hK
                              have HB := hR.2
                              have dg := Reg.dep hde 5 rfl
                              have xg : a.tmps[161]? = some (.bool true) := ev.got hR.1 5 161 _ rfl rfl dg
                              rw [if_pos (Reg.wanted_of rfl (Reg.yielded_of (t := 161) rfl xg))]
                              have d7 := Reg.dep hde 7 rfl
                              have x163 : a.tmps[163]? = some (.int .u64 (tb : Int)) := ev.got hR.1 7 163 _ rfl rfl d7
                              have d9 := Reg.dep hde 9 rfl
                              have x165 : a.tmps[165]? = some (.int .u64 (ow : Int)) := ev.got hR.1 9 165 _ rfl rfl d9
                              clear hde ev hd HB
                              go_simp
                              exact hK _ _ ⟨hR.1.step (.inr rfl), hR.2⟩
                            refine Reg.Steps.cons (k' := 12) rfl ?_ ?_
                            · intro D vals a W hR hd hde ev K' hK
                              have HB := hR.2
                              have d5 := Reg.dep hde 5 rfl
                              have x161 : a.tmps[161]? = some (.bool true) := ev.got hR.1 5 161 _ rfl rfl d5
                              have d10 := Reg.dep hde 10 rfl
                              have x166 : a.tmps[166]? = some (.bool false) := ev.got hR.1 10 166 _ rfl rfl d10
                              clear hde ev hd HB
                              go_simp
                              exact hK _ _ ⟨hR.1.step (.inr rfl), hR.2⟩
                            refine Reg.Steps.cons (k' := 13) rfl ?_ ?_
                            · intro D vals a W hR hd hde ev K' hK
                              have HB := hR.2
                              have d11 := Reg.dep hde 11 rfl
                              have x167 : a.tmps[167]? = some (.bool false) := ev.got hR.1 11 167 _ rfl rfl d11
                              clear hde ev hd HB
                              go_simp
                              exact hK _ _ ⟨hR.1.step (.inr rfl), hR.2⟩
                            refine Reg.Steps.cons (k' := 14) rfl ?_ ?_
                            · intro D vals a W hR hd hde ev K' hK
                              have HB := hR.2
                              have dg := Reg.dep hde 12 rfl
                              have xg : a.tmps[168]? = some (.bool false) := ev.got hR.1 12 168 _ rfl rfl dg
                              rw [if_neg (Reg.wanted_not rfl (Reg.yielded_of (t := 168) rfl xg) (by decide))]
                              exact hK _ _ ⟨hR.1.step (.inr rfl), HB⟩
                            refine Reg.Steps.cons (k' := 15) rfl ?_ ?_
                            · intro D vals a W hR hd hde ev K' hK
                              have HB := hR.2
                              have dg := Reg.dep hde 12 rfl
                              have xg : a.tmps[168]? = some (.bool false) := ev.got hR.1 12 168 _ rfl rfl dg
                              rw [if_neg (Reg.wanted_not rfl (Reg.yielded_of (t := 168) rfl xg) (by decide))]
                              exact hK _ _ ⟨hR.1.step (.inr rfl), HB⟩
                            refine Reg.Steps.cons (k' := 16) rfl ?_ ?_
                            · intro D vals a W hR hd hde ev K' hK
                              have HB := hR.2
                              have dg := Reg.dep hde 12 rfl
                              have xg : a.tmps[168]? = some (.bool false) := ev.got hR.1 12 168 _ rfl rfl dg
                              rw [if_neg (Reg.wanted_not rfl (Reg.yielded_of (t := 168) rfl xg) (by decide))]
                              exact hK _ _ ⟨hR.1.step (.inr rfl), HB⟩
                            refine Reg.Steps.cons (k' := 17) rfl ?_ ?_
                            · intro D vals a W hR hd hde ev K' hK
                              have HB := hR.2
                              have dg := Reg.dep hde 12 rfl
                              have xg : a.tmps[168]? = some (.bool false) := ev.got hR.1 12 168 _ rfl rfl dg
                              rw [if_neg (Reg.wanted_not rfl (Reg.yielded_of (t := 168) rfl xg) (by decide))]
                              exact hK _ _ ⟨hR.1.step (.inr rfl), HB⟩
                            refine Reg.Steps.cons (k' := 18) rfl ?_ ?_
                            · intro D vals a W hR hd hde ev K' hK
                              have HB := hR.2
                              have dg := Reg.dep hde 12 rfl
                              have xg : a.tmps[168]? = some (.bool false) := ev.got hR.1 12 168 _ rfl rfl dg
                              rw [if_neg (Reg.wanted_not rfl (Reg.yielded_of (t := 168) rfl xg) (by decide))]
                              exact hK _ _ ⟨hR.1.step (.inr rfl), HB⟩
                            refine Reg.Steps.cons (k' := 19) rfl ?_ ?_
                            · intro D vals a W hR hd hde ev K' hK
                              have HB := hR.2
                              have dg := Reg.dep hde 12 rfl
                              have xg : a.tmps[168]? = some (.bool false) := ev.got hR.1 12 168 _ rfl rfl dg
                              rw [if_neg (Reg.wanted_not rfl (Reg.yielded_of (t := 168) rfl xg) (by decide))]
                              exact hK _ _ ⟨hR.1.step (.inr rfl), HB⟩
                            refine Reg.Steps.cons (k' := 20) rfl ?_ ?_
                            · intro D vals a W hR hd hde ev K' hK
                              have HB := hR.2
                              have dg := Reg.dep hde 12 rfl
                              have xg : a.tmps[168]? = some (.bool false) := ev.got hR.1 12 168 _ rfl rfl dg
                              rw [if_neg (Reg.wanted_not rfl (Reg.yielded_of (t := 168) rfl xg) (by decide))]
                              exact hK _ _ ⟨hR.1.step (.inr rfl), HB⟩
                            refine Reg.Steps.cons (k' := 21) rfl ?_ ?_
                            · intro D vals a W hR hd hde ev K' hK
                              have HB := hR.2
                              have d12 := Reg.dep hde 12 rfl
                              have x168 : a.tmps[168]? = some (.bool false) := ev.got hR.1 12 168 _ rfl rfl d12
                              have d19 := Reg.dep hde 19 rfl
                              have x175 : a.tmps[175]? = some (undef) := ev.got hR.1 19 175 _ rfl rfl d19
                              clear hde ev hd HB
                              go_simp
                              exact hK _ _ ⟨hR.1.step (.inr rfl), hR.2⟩
                            exact Reg.Steps.nil
                          · intro D vals W2 hD hR
                            have hB2 := hR.2
                            have ev20 := hR.1 20 _ rfl (hD 20 (by decide))
                            clear hR hD
                            simp only [Reg.fin, Act.put, List.setIfInBounds_toArray, List.set_cons_zero, List.set_cons_succ, ev20]
                            clear ev20
                            generalize vals 0 = z0; generalize vals 1 = z1; generalize vals 2 = z2; generalize vals 3 = z3; generalize vals 4 = z4; generalize vals 5 = z5; generalize vals 6 = z6; generalize vals 7 = z7; generalize vals 8 = z8; generalize vals 9 = z9; generalize vals 10 = z10; generalize vals 11 = z11; generalize vals 12 = z12; generalize vals 13 = z13; generalize vals 14 = z14; generalize vals 15 = z15; generalize vals 16 = z16; generalize vals 17 = z17; generalize vals 18 = z18; generalize vals 19 = z19
                            clear vals
                            have HBF := Lib.hid (HB6.out.trans (hB2.mono HB6.out.size))
                            clear hB2
                            go_wp2_with fail
                            go_roundw
                            case rel => exact ⟨j + 1, by omega, by go_num, HBF.out⟩
                            case measure => simp [intOf]; omega
                        · have hn2 : (tb != ow) = true := by rw [bne, beq_eq_false_iff_ne.2 h2]; rfl
                          have hi2 : ((tb : Int) != (ow : Int)) = true := by rw [bne, beq_eq_false_iff_ne.2 (by omega)]; rfl
                          have HVIS : Hid (∀ W, Below V.heap.size V W → Calls Try.prog 21 #[.pointer (some ⟨P, 0, none⟩), .agg #[.int .u64 (ow : Int), .int .u64 (xm : Int), .int .u64 (xx : Int), .slice RA rn rc], .agg #[.int .u64 0, .int .u64 (ta : Int), .int .u64 (tb : Int), .int .i64 0, .int .i64 0, .slice none 0 0]] W fun e w' => e = .returned (.bool false) ∧ Below W.heap.size W w') := Lib.hid (fun W h => HVIS0.out W (HB4V.out.trans (h.mono HB4V.out.size)) ta tb HTJ.out h1 h2)
                          clear h1 h2
                          refine Reg.wp_region_inv_lit (by kernel_rfl) (by kernel_rfl) (fun D vals W => Reg.Fx (fun k9 => ([some (.pointer (some ⟨gT, 1, none⟩)), some (.int .u64 (ta : Int)), some (.pointer (some ⟨gS, 0, none⟩)), some (.int .u64 (ow : Int)), some (.bool true), some (.bool true), some (.pointer (some ⟨gT, 2, none⟩)), some (.int .u64 (tb : Int)), some (.pointer (some ⟨gS, 0, none⟩)), some (.int .u64 (ow : Int)), some (.bool true), some (.bool true), some (.bool true), some (.pointer (some ⟨PB, 0, none⟩)), some (.pointer (some ⟨PB, 0, none⟩)), some (.pointer (some ⟨PB, 0, none⟩)), some (.pointer (some ⟨P, 0, none⟩)), some (.agg #[.int .u64 (ow : Int), .int .u64 (xm : Int), .int .u64 (xx : Int), .slice RA rn rc]), some (.agg #[.int .u64 0, .int .u64 (ta : Int), .int .u64 (tb : Int), .int .i64 0, .int .i64 0, .slice none 0 0]), some (.bool false), some (.bool false)] : List (Option Value)).getD k9 none) D vals ∧ Below V.heap.size V W) ⟨Reg.Fx.init _ _, ⟨rfl, rfl, rfl, Nat.le_refl _, fun _ _ => rfl⟩⟩ (fun Q' => ?_) ?_
                          · refine Reg.Steps.cons (k' := 1) rfl ?_ ?_
                            · intro D vals a W hR hd hde ev K' hK
                              have HB := hR.2
                              have x24 : a.tmps[24]? = some (.pointer (some ⟨gT, 0, none⟩)) := (ev.out 24 (by kernel_rfl)).trans rfl
                              clear hde ev hd HB
                              go_simp
                              exact hK _ _ ⟨hR.1.step (.inr rfl), hR.2⟩
                            refine Reg.Steps.cons (k' := 2) rfl ?_ ?_
                            · intro D vals a W hR hd hde ev K' hK
                              have HB := hR.2
                              have d0 := Reg.dep hde 0 rfl
                              have x156 : a.tmps[156]? = some (.pointer (some ⟨gT, 1, none⟩)) := ev.got hR.1 0 156 _ rfl rfl d0
                              have q := (HKT.out.below HB HKT.out.lt).cell 1
                              clear hde ev hd HB
                              go_simp
                              exact hK _ _ ⟨hR.1.step (.inr rfl), hR.2⟩
                            refine Reg.Steps.cons (k' := 3) rfl ?_ ?_
                            · intro D vals a W hR hd hde ev K' hK
                              have HB := hR.2
                              have x22 : a.tmps[22]? = some (.pointer (some ⟨gS, 0, none⟩)) := (ev.out 22 (by kernel_rfl)).trans rfl
                              clear hde ev hd HB
                              go_simp
                              exact hK _ _ ⟨hR.1.step (.inr rfl), hR.2⟩
                            refine Reg.Steps.cons (k' := 4) rfl ?_ ?_
                            · intro D vals a W hR hd hde ev K' hK
                              have HB := hR.2
                              have d2 := Reg.dep hde 2 rfl
                              have x158 : a.tmps[158]? = some (.pointer (some ⟨gS, 0, none⟩)) := ev.got hR.1 2 158 _ rfl rfl d2
                              have q := (HKS.out.below HB HKS.out.lt).cell 0
                              clear hde ev hd HB
                              go_simp
                              exact hK _ _ ⟨hR.1.step (.inr rfl), hR.2⟩
                            refine Reg.Steps.cons (k' := 5) rfl ?_ ?_
                            · intro D vals a W hR hd hde ev K' hK
                              have HB := hR.2
                              have d1 := Reg.dep hde 1 rfl
                              have x157 : a.tmps[157]? = some (.int .u64 (ta : Int)) := ev.got hR.1 1 157 _ rfl rfl d1
                              have d3 := Reg.dep hde 3 rfl
                              have x159 : a.tmps[159]? = some (.int .u64 (ow : Int)) := ev.got hR.1 3 159 _ rfl rfl d3
                              clear hde ev hd HB
                              go_simp
                              exact hK _ _ ⟨hR.1.step (.inr rfl), hR.2⟩
                            refine Reg.Steps.cons (k' := 6) rfl ?_ ?_
                            · intro D vals a W hR hd hde ev K' hK
                              have HB := hR.2
                              have d4 := Reg.dep hde 4 rfl
                              have x160 : a.tmps[160]? = some (.bool true) := ev.got hR.1 4 160 _ rfl rfl d4
                              clear hde ev hd HB
                              go_simp
                              exact hK _ _ ⟨hR.1.step (.inr rfl), hR.2⟩
                            refine Reg.Steps.cons (k' := 7) rfl ?_ ?_
                            · intro D vals a W hR hd hde ev K' hK
                              have HB := hR.2
                              have dg := Reg.dep hde 5 rfl
                              have xg : a.tmps[161]? = some (.bool true) := ev.got hR.1 5 161 _ rfl rfl dg
                              rw [if_pos (Reg.wanted_of rfl (Reg.yielded_of (t := 161) rfl xg))]
                              have x24 : a.tmps[24]? = some (.pointer (some ⟨gT, 0, none⟩)) := (ev.out 24 (by kernel_rfl)).trans rfl
                              clear hde ev hd HB
                              go_simp
                              exact hK _ _ ⟨hR.1.step (.inr rfl), hR.2⟩
                            refine Reg.Steps.cons (k' := 8) rfl ?_ ?_
                            · intro D vals a W hR hd hde ev K' hK
                              have HB := hR.2
                              have dg := Reg.dep hde 5 rfl
                              have xg : a.tmps[161]? = some (.bool true) := ev.got hR.1 5 161 _ rfl rfl dg
                              rw [if_pos (Reg.wanted_of rfl (Reg.yielded_of (t := 161) rfl xg))]
                              have d6 := Reg.dep hde 6 rfl
                              have x162 : a.tmps[162]? = some (.pointer (some ⟨gT, 2, none⟩)) := ev.got hR.1 6 162 _ rfl rfl d6
                              have q := (HKT.out.below HB HKT.out.lt).cell 2
                              clear hde ev hd HB
                              go_simp
                              exact hK _ _ ⟨hR.1.step (.inr rfl), hR.2⟩
                            refine Reg.Steps.cons (k' := 9) rfl ?_ ?_
                            · intro D vals a W hR hd hde ev K' hK
                              have HB := hR.2
                              have dg := Reg.dep hde 5 rfl
                              have xg : a.tmps[161]? = some (.bool true) := ev.got hR.1 5 161 _ rfl rfl dg
                              rw [if_pos (Reg.wanted_of rfl (Reg.yielded_of (t := 161) rfl xg))]
                              have x22 : a.tmps[22]? = some (.pointer (some ⟨gS, 0, none⟩)) := (ev.out 22 (by kernel_rfl)).trans rfl
                              clear hde ev hd HB
                              go_simp
                              exact hK _ _ ⟨hR.1.step (.inr rfl), hR.2⟩
                            refine Reg.Steps.cons (k' := 10) rfl ?_ ?_
                            · intro D vals a W hR hd hde ev K' hK
                              have HB := hR.2
                              have dg := Reg.dep hde 5 rfl
                              have xg : a.tmps[161]? = some (.bool true) := ev.got hR.1 5 161 _ rfl rfl dg
                              rw [if_pos (Reg.wanted_of rfl (Reg.yielded_of (t := 161) rfl xg))]
                              have d8 := Reg.dep hde 8 rfl
                              have x164 : a.tmps[164]? = some (.pointer (some ⟨gS, 0, none⟩)) := ev.got hR.1 8 164 _ rfl rfl d8
                              have q := (HKS.out.below HB HKS.out.lt).cell 0
                              clear hde ev hd HB
                              go_simp
                              exact hK _ _ ⟨hR.1.step (.inr rfl), hR.2⟩
                            refine Reg.Steps.cons (k' := 11) rfl ?_ ?_
                            · intro D vals a W hR hd hde ev K' hK
                              have HB := hR.2
                              have dg := Reg.dep hde 5 rfl
                              have xg : a.tmps[161]? = some (.bool true) := ev.got hR.1 5 161 _ rfl rfl dg
                              rw [if_pos (Reg.wanted_of rfl (Reg.yielded_of (t := 161) rfl xg))]
                              have d7 := Reg.dep hde 7 rfl
                              have x163 : a.tmps[163]? = some (.int .u64 (tb : Int)) := ev.got hR.1 7 163 _ rfl rfl d7
                              have d9 := Reg.dep hde 9 rfl
                              have x165 : a.tmps[165]? = some (.int .u64 (ow : Int)) := ev.got hR.1 9 165 _ rfl rfl d9
                              clear hde ev hd HB
                              go_simp
                              exact hK _ _ ⟨hR.1.step (.inr rfl), hR.2⟩
                            refine Reg.Steps.cons (k' := 12) rfl ?_ ?_
                            · intro D vals a W hR hd hde ev K' hK
                              have HB := hR.2
                              have d5 := Reg.dep hde 5 rfl
                              have x161 : a.tmps[161]? = some (.bool true) := ev.got hR.1 5 161 _ rfl rfl d5
                              have d10 := Reg.dep hde 10 rfl
                              have x166 : a.tmps[166]? = some (.bool true) := ev.got hR.1 10 166 _ rfl rfl d10
                              clear hde ev hd HB
                              go_simp
                              exact hK _ _ ⟨hR.1.step (.inr rfl), hR.2⟩
                            refine Reg.Steps.cons (k' := 13) rfl ?_ ?_
                            · intro D vals a W hR hd hde ev K' hK
                              have HB := hR.2
                              have d11 := Reg.dep hde 11 rfl
                              have x167 : a.tmps[167]? = some (.bool true) := ev.got hR.1 11 167 _ rfl rfl d11
                              clear hde ev hd HB
                              go_simp
                              exact hK _ _ ⟨hR.1.step (.inr rfl), hR.2⟩
                            refine Reg.Steps.cons (k' := 14) rfl ?_ ?_
                            · intro D vals a W hR hd hde ev K' hK
                              have HB := hR.2
                              have dg := Reg.dep hde 12 rfl
                              have xg : a.tmps[168]? = some (.bool true) := ev.got hR.1 12 168 _ rfl rfl dg
                              rw [if_pos (Reg.wanted_of rfl (Reg.yielded_of (t := 168) rfl xg))]
                              have x7 : a.tmps[7]? = some (.pointer (some ⟨PB, 0, none⟩)) := (ev.out 7 (by kernel_rfl)).trans rfl
                              clear hde ev hd HB
                              go_simp
                              exact hK _ _ ⟨hR.1.step (.inr rfl), hR.2⟩
                            refine Reg.Steps.cons (k' := 15) rfl ?_ ?_
                            · intro D vals a W hR hd hde ev K' hK
                              have HB := hR.2
                              have dg := Reg.dep hde 12 rfl
                              have xg : a.tmps[168]? = some (.bool true) := ev.got hR.1 12 168 _ rfl rfl dg
                              rw [if_pos (Reg.wanted_of rfl (Reg.yielded_of (t := 168) rfl xg))]
                              have d13 := Reg.dep hde 13 rfl
                              have x169 : a.tmps[169]? = some (.pointer (some ⟨PB, 0, none⟩)) := ev.got hR.1 13 169 _ rfl rfl d13
                              clear hde ev hd HB
                              go_simp
                              exact hK _ _ ⟨hR.1.step (.inr rfl), hR.2⟩
                            refine Reg.Steps.cons (k' := 16) rfl ?_ ?_
                            · intro D vals a W hR hd hde ev K' hK
                              have HB := hR.2
                              have dg := Reg.dep hde 12 rfl
                              have xg : a.tmps[168]? = some (.bool true) := ev.got hR.1 12 168 _ rfl rfl dg
                              rw [if_pos (Reg.wanted_of rfl (Reg.yielded_of (t := 168) rfl xg))]
                              have d14 := Reg.dep hde 14 rfl
                              have x170 : a.tmps[170]? = some (.pointer (some ⟨PB, 0, none⟩)) := ev.got hR.1 14 170 _ rfl rfl d14
                              clear hde ev hd HB
                              go_simp
                              exact hK _ _ ⟨hR.1.step (.inr rfl), hR.2⟩
                            refine Reg.Steps.cons (k' := 17) rfl ?_ ?_
                            · intro D vals a W hR hd hde ev K' hK
                              have HB := hR.2
                              have dg := Reg.dep hde 12 rfl
                              have xg : a.tmps[168]? = some (.bool true) := ev.got hR.1 12 168 _ rfl rfl dg
                              rw [if_pos (Reg.wanted_of rfl (Reg.yielded_of (t := 168) rfl xg))]
                              have d15 := Reg.dep hde 15 rfl
                              have x171 : a.tmps[171]? = some (.pointer (some ⟨PB, 0, none⟩)) := ev.got hR.1 15 171 _ rfl rfl d15
                              have q := HPC.out W HB
                              clear hde ev hd HB
                              go_simp
                              exact hK _ _ ⟨hR.1.step (.inr rfl), hR.2⟩
                            refine Reg.Steps.cons (k' := 18) rfl ?_ ?_
                            · intro D vals a W hR hd hde ev K' hK
                              have HB := hR.2
                              have dg := Reg.dep hde 12 rfl
                              have xg : a.tmps[168]? = some (.bool true) := ev.got hR.1 12 168 _ rfl rfl dg
                              rw [if_pos (Reg.wanted_of rfl (Reg.yielded_of (t := 168) rfl xg))]
                              have x22 : a.tmps[22]? = some (.pointer (some ⟨gS, 0, none⟩)) := (ev.out 22 (by kernel_rfl)).trans rfl
                              have ks := HKS.out.below HB HKS.out.lt
                              have q0 := ks.cell 0
                              have q1 := ks.cell 1
                              have q2 := ks.cell 2
                              have q3 := ks.cell 3
                              clear ks
                              clear hde ev hd HB
                              go_simp
                              exact hK _ _ ⟨hR.1.step (.inr rfl), hR.2⟩
                            refine Reg.Steps.cons (k' := 19) rfl ?_ ?_
                            · intro D vals a W hR hd hde ev K' hK
                              have HB := hR.2
                              have dg := Reg.dep hde 12 rfl
                              have xg : a.tmps[168]? = some (.bool true) := ev.got hR.1 12 168 _ rfl rfl dg
                              rw [if_pos (Reg.wanted_of rfl (Reg.yielded_of (t := 168) rfl xg))]
                              have x24 : a.tmps[24]? = some (.pointer (some ⟨gT, 0, none⟩)) := (ev.out 24 (by kernel_rfl)).trans rfl
                              have kt := HKT.out.below HB HKT.out.lt
                              have q0 := kt.cell 0
                              have q1 := kt.cell 1
                              have q2 := kt.cell 2
                              have q3 := kt.cell 3
                              have q4 := kt.cell 4
                              have q5 := kt.cell 5
                              clear kt
                              clear hde ev hd HB
                              go_simp
                              exact hK _ _ ⟨hR.1.step (.inr rfl), hR.2⟩
                            refine Reg.Steps.cons (k' := 20) rfl ?_ ?_
                            · intro D vals a W hR hd hde ev K' hK
                              have HB := hR.2
                              have dg := Reg.dep hde 12 rfl
                              have xg : a.tmps[168]? = some (.bool true) := ev.got hR.1 12 168 _ rfl rfl dg
                              rw [if_pos (Reg.wanted_of rfl (Reg.yielded_of (t := 168) rfl xg))]
                              have d16 := Reg.dep hde 16 rfl
                              have x172 : a.tmps[172]? = some (.pointer (some ⟨P, 0, none⟩)) := ev.got hR.1 16 172 _ rfl rfl d16
                              have d17 := Reg.dep hde 17 rfl
                              have x173 : a.tmps[173]? = some (.agg #[.int .u64 (ow : Int), .int .u64 (xm : Int), .int .u64 (xx : Int), .slice RA rn rc]) := ev.got hR.1 17 173 _ rfl rfl d17
                              have d18 := Reg.dep hde 18 rfl
                              have x174 : a.tmps[174]? = some (.agg #[.int .u64 0, .int .u64 (ta : Int), .int .u64 (tb : Int), .int .i64 0, .int .i64 0, .slice none 0 0]) := ev.got hR.1 18 174 _ rfl rfl d18
                              have CC := Lib.hid (HVIS.out W HB)
                              have HR1 := Lib.hid hR
                              clear hde ev hd HB hR
                              go_simp
                              refine CC.out.mono ?_
                              rintro e W1 ⟨rfl, hb⟩
                              exact hK _ _ ⟨HR1.out.1.step (.inr rfl), HR1.out.2.trans (hb.mono HR1.out.2.size)⟩
                            refine Reg.Steps.cons (k' := 21) rfl ?_ ?_
                            · intro D vals a W hR hd hde ev K' hK
                              have HB := hR.2
                              have d12 := Reg.dep hde 12 rfl
                              have x168 : a.tmps[168]? = some (.bool true) := ev.got hR.1 12 168 _ rfl rfl d12
                              have d19 := Reg.dep hde 19 rfl
                              have x175 : a.tmps[175]? = some (.bool false) := ev.got hR.1 19 175 _ rfl rfl d19
                              clear hde ev hd HB
                              go_simp
                              exact hK _ _ ⟨hR.1.step (.inr rfl), hR.2⟩
                            exact Reg.Steps.nil
                          · intro D vals W2 hD hR
                            have hB2 := hR.2
                            have ev20 := hR.1 20 _ rfl (hD 20 (by decide))
                            clear hR hD
                            simp only [Reg.fin, Act.put, List.setIfInBounds_toArray, List.set_cons_zero, List.set_cons_succ, ev20]
                            clear ev20
                            generalize vals 0 = z0; generalize vals 1 = z1; generalize vals 2 = z2; generalize vals 3 = z3; generalize vals 4 = z4; generalize vals 5 = z5; generalize vals 6 = z6; generalize vals 7 = z7; generalize vals 8 = z8; generalize vals 9 = z9; generalize vals 10 = z10; generalize vals 11 = z11; generalize vals 12 = z12; generalize vals 13 = z13; generalize vals 14 = z14; generalize vals 15 = z15; generalize vals 16 = z16; generalize vals 17 = z17; generalize vals 18 = z18; generalize vals 19 = z19
                            clear vals
                            have HBF := Lib.hid (HB6.out.trans (hB2.mono HB6.out.size))
                            clear hB2
                            go_wp2_with fail
                            go_roundw
                            case rel => exact ⟨j + 1, by omega, by go_num, HBF.out⟩
                            case measure => simp [intOf]; omega
                    · obtain rfl : j = m3 := by omega
                      have HBF := Lib.hid (HB4.out.trans (HBJ.out.mono HB4.out.size))
                      go_wp2_with fail
                      go_roundw
                      case rel => exact ⟨t + 1, by omega, by go_num, HBF.out⟩
                      case measure => simp [intOf]; omega
                · obtain rfl : t = m2 := by omega
                  have HFIN := Lib.hid (bel_trans HB1.out (HLS4.out.ap.below HBO.out).1.bel)
                  go_wp2_with fail
                  go_ret
                  exact ⟨rfl, HFIN.out⟩
end Go.Proofs.Ytaadkgcpkghgmaa.Clg
