/- SnapStays: its walk. -/
import Derived.Test.YtaadkgcpkghgmaaSnapU
namespace Go.Proofs.Ytaadkgcpkghgmaa.Clg
open Go.ChangeMaps Go.MapKept Go.RowKit Go.Proofs.Ytaadkgcpkghgmaa.Nums Go.Proofs.Ytaadkgcpkghgmaa.Mem
set_option linter.unusedVariables false
set_option linter.unusedSimpArgs false
set_option maxRecDepth 100000
theorem cas_cells {w : World} {A : Option Addr} {n c : Nat} {l : List Sp} (h : Sl w w.heap.size 4 A n c (cas l)) {w' : World} (hb : Below w.heap.size w w') {k : Nat} {o : Sp} (ho : l[k]? = some o) (hn : l.length = n) : ∃ ad, A = some ad ∧
    w'.cell? (ad.add (k * 4)) = some (.int .u64 (o.own : Int)) ∧ w'.cell? ⟨(ad.add (k * 4)).block, (ad.add (k * 4)).off + 1, none⟩ = some (.int .u64 (o.xmin : Int)) ∧ w'.cell? ⟨(ad.add (k * 4)).block, (ad.add (k * 4)).off + 2, none⟩ = some (.int .u64 (o.xmax : Int)) ∧ w'.cell? ⟨(ad.add (k * 4)).block, (ad.add (k * 4)).off + 3, none⟩ = some (.slice o.A o.run.length o.c) := by
  have hk := (List.getElem?_eq_some_iff.1 ho).1
  obtain ⟨ad, hA, hat⟩ := h.at_ (by omega)
  have key : ∀ j y, o.ca[j]? = some y → j < 4 → w'.cell? (ad.add (k * 4 + j)) = some y := fun j y hy hj => (hat.below hb).2 (k * 4 + j) y (by rw [cas_at l k o ho j hj]; exact hy)
  have e : ∀ j y, o.ca[j + 1]? = some y → j + 1 < 4 → w'.cell? ⟨(ad.add (k * 4)).block, (ad.add (k * 4)).off + (j + 1), none⟩ = some y := fun j y hy hj => by
    rw [← off_succ]
    exact key _ _ hy hj
  exact ⟨ad, hA, key 0 _ rfl (by omega), e 0 _ rfl (by omega), e 1 _ rfl (by omega), e 2 _ rfl (by omega)⟩
theorem own_mono {w : World} {b b' sz n : Nat} {e : TypeId} {v : Value} {xs : List Value} (h : w.ownsRow b e sz v n xs) (hb : b' ≤ b) : w.ownsRow b' e sz v n xs :=
  ⟨h.1, h.2.imp id fun ⟨g, cap, cur, e, hg, r⟩ => ⟨g, cap, cur, e, Nat.le_trans hb hg, r⟩⟩
theorem cell_keep {w w' : World} {a : Addr} {v : Value} (hb : Below w.heap.size w w') (h : w.cell? a = some v) : w'.cell? a = some v := by rw [hb.cell (World.block_lt_of_cell? w a h)]; exact h
theorem PS.slA {w0 w : World} {K : Nat → Prop} {PB P Q : Nat} {S : List Nat} {l : List Sp} {A B : Option Addr} {c d p : Nat} (h : PS w0 w K PB P Q S l A c B d) (hp : l.length = p) : Sl w w.heap.size 4 A p c (cas l) := by
  have h := h.oa
  rw [hp] at h
  obtain ⟨A', c', e, hs⟩ := Sl.of_own h
  injection e with e1 _ e3
  subst e1 e3
  exact hs
def bqOf (S : List Nat) (sl : List Sp) (j : Nat) : Nat → Bool := match sl[j]? with | some s => seesB 1 S s.own s.xmax s.run | none => fun _ => false
theorem bqOf_at {S : List Nat} {sl : List Sp} {j : Nat} {s : Sp} (h : sl[j]? = some s) : bqOf S sl j = seesB 1 S s.own s.xmax s.run := by unfold bqOf; rw [h]
set_option maxHeartbeats 8000000 in
theorem stays_walk (w : World) (l : List O10) (A : Option Addr) (n c : Nat) (bl : List O10) (BA : Option Addr) (bn bc : Nat) (hl : l.length = n) (hs : Sl w w.heap.size 2 A n c (o10_s l)) (hok : ∀ o ∈ l, o.ok) (hbl : bl.length = bn) (hbs : Sl w w.heap.size 2 BA bn bc (o10_s bl)) (hbok : ∀ o ∈ bl, o.ok) :
    Calls Try.prog 4 #[.slice A n c, .slice BA bn bc] w fun e w' => e = .returned (.bool true) ∧ Below w.heap.size w w' := by
  have HS := Lib.hid hs
  have HL := Lib.hid hl
  have HOK := Lib.hid hok
  have HBS := Lib.hid hbs
  have HBL := Lib.hid hbl
  have HBOK := Lib.hid hbok
  have hcap := hs.cap
  have hle := hs.le
  have hbcap := hbs.cap
  have hble := hbs.le
  unfold maxLen at hcap hbcap
  clear hs hl hok hbs hbl hbok
  go_enter Try.func4, Try.ntmps4
  go_wp2_with fail
  refine (awakeS_any w).mono ?_
  rintro e w1 ⟨rfl, hb1⟩
  have HB1 := Lib.hid hb1
  have CP : Hid (Calls Try.prog 13 #[.slice A n c, .int .i64 30] w1 (PlayP w1)) := Lib.hid (play_any w1 l A n c 30 (by omega) HL.out (Sl.on HS.out hb1) HOK.out)
  clear hb1
  go_wp2_with fail
  refine CP.out.mono ?_
  rintro e w2 ⟨K, PB, P, Q, S, sl, A1, c1, B1, d1, rfl, hps, hl40⟩
  have HPS := Lib.hid hps
  have HB2 := Lib.hid (bel_trans HB1.out hps.ap.bel)
  obtain ⟨p, hp⟩ : ∃ p, sl.length = p := ⟨_, rfl⟩
  have HP := Lib.hid hp
  have HCA := Lib.hid (hps.slA hp)
  have hle1 := HCA.out.le
  have hcap1 := HCA.out.cap
  unfold maxLen at hcap1
  have q2 := hps.pb.cell 2
  rw [hp] at q2 hl40
  simp only [List.getElem?_toArray, List.getElem?_cons_zero, List.getElem?_cons_succ] at q2
  have HPSW : Hid (∀ W, Below w2.heap.size w2 W → PS w1 W K PB P Q S sl A1 c1 B1 d1) := Lib.hid (fun W h => HPS.out.below h)
  clear hps CP hp
  go_wp2_with fail
  clear q2
  go_loopw [7, 31] (fun v i wo => ∃ t : Nat, t ≤ p ∧ i = .int .i64 t ∧ ∃ A2 c2 ws, v = .slice A2 t c2 ∧ WS w2 wo t A2 c2 ws (bqOf S sl)) (fun _ i _ => p - (intOf i).toNat)
  case atStart => exact ⟨0, by omega, rfl, none, 0, [], rfl, Below.refl _ _, World.ownsRow_nil _ _ _ _, fun j hj => absurd hj (by omega)⟩
  case round =>
    obtain ⟨t, ht, rfl, A2, c2, ws, rfl, hws⟩ := hrel
    have HWS := Lib.hid hws
    clear hws
    by_cases htp : t < p
    · have htp' : (t : Int) < p := by omega
      obtain ⟨sp, hsp⟩ : ∃ sp, sl[t]? = some sp := ⟨_, List.getElem?_eq_getElem (by rw [HP.out]; exact htp)⟩
      obtain ⟨ad3, rfl, y0, y1, y2, y3⟩ := cas_cells HCA.out HWS.out.bel hsp HP.out
      have HSPM := Lib.hid (List.mem_of_getElem? hsp)
      have hbq := bqOf_at (S := S) hsp
      clear hsp
      obtain ⟨ow, xm, xx, run, RA, rc, RB, rd⟩ := sp
      obtain ⟨rn, hrn⟩ : ∃ rn, run.length = rn := ⟨_, rfl⟩
      obtain ⟨b9, hb9⟩ : ∃ b9 : Nat → Bool, bqOf S sl t = b9 := ⟨_, rfl⟩
      have HB9 := Lib.hid hb9
      have HSEES : Hid (∀ W, Below w2.heap.size w2 W → ∀ (x : Nat), x < 18446744073709551616 → Calls Try.prog 19 #[.pointer (some ⟨P, 0, none⟩), .agg #[.int .u64 (ow : Int), .int .u64 (xm : Int), .int .u64 (xx : Int), .slice RA rn rc], .int .u64 (x : Int)] W fun e w' => e = .returned (.bool (b9 x)) ∧ Below W.heap.size W w') := Lib.hid (fun W h x hx => by
        have hps := HPSW.out W h
        obtain ⟨F, hal⟩ := hps.ap.al
        have := sees_any hal hps.ok (own := ow) (xmin := xm) (xmax := xx) (hps.sp _ HSPM.out).1.a hx
        rw [← hb9, hbq]
        rw [← hrn]
        exact this)
      simp only [hrn] at y3
      clear hb9 hbq hrn HSPM
      go_wp2_with fail
      clear y0 y1 y2 y3
      have HWS4 := Lib.hid (HWS.out.below (bel_alloc wr (.cells #[.int .u64 (ow : Int), .int .u64 (xm : Int), .int .u64 (xx : Int), .slice RA rn rc] 48)))
      have HK4 : Hid (Blk (wr.alloc (.cells #[.int .u64 (ow : Int), .int .u64 (xm : Int), .int .u64 (xx : Int), .slice RA rn rc] 48)) wr.heap.size 48 #[.int .u64 (ow : Int), .int .u64 (xm : Int), .int .u64 (xx : Int), .slice RA rn rc]) := Lib.hid (Blk.new _ _ _)
      generalize (wr.alloc (.cells #[.int .u64 (ow : Int), .int .u64 (xm : Int), .int .u64 (xx : Int), .slice RA rn rc] 48)) = Wt at *
      generalize wr.heap.size = gS at *
      clear HWS
      have HPST : Hid (∀ W, Below Wt.heap.size Wt W → PS w1 W K PB P Q S sl (some ad3) c1 B1 d1) := Lib.hid (fun W h => HPSW.out W (HWS4.out.bel.trans (h.mono HWS4.out.bel.size)))
      have HSEE : Hid (∀ W, Below Wt.heap.size Wt W → ∀ (x : Nat), x < 18446744073709551616 → Calls Try.prog 19 #[.pointer (some ⟨P, 0, none⟩), .agg #[.int .u64 (ow : Int), .int .u64 (xm : Int), .int .u64 (xx : Int), .slice RA rn rc], .int .u64 (x : Int)] W fun e w' => e = .returned (.bool (b9 x)) ∧ Below W.heap.size W w') := Lib.hid (fun W h => HSEES.out W (HWS4.out.bel.trans (h.mono HWS4.out.bel.size)))
      go_loopw [10, 35] (fun v i wi => ∃ x : Nat, x ≤ 60 ∧ i = .int .u64 x ∧ ∃ A9 c9, v = .slice A9 x c9 ∧ wi.ownsRow Wt.heap.size 4 1 (.slice A9 x c9) x (bls b9 x) ∧ Below Wt.heap.size Wt wi) (fun _ i _ => 60 - (intOf i).toNat)
      case atStart => exact ⟨0, by omega, rfl, none, 0, rfl, World.ownsRow_nil _ _ _ _, Below.refl _ _⟩
      case round =>
        obtain ⟨x, hx, rfl, A9, c9, rfl, ho9, hbi⟩ := hrel
        have HOV := Lib.hid ho9
        have HBI := Lib.hid hbi
        clear ho9 hbi
        by_cases hx60 : x < 60
        · have hx60' : (x : Int) < 60 := by omega
          have HX9 : Hid (x < 18446744073709551616) := Lib.hid (by omega)
          have HX60 := Lib.hid hx60
          have HKS := HK4
          go_wp2_with fail
          have HBV : Hid (Below Wt.heap.size Wt wr.drew) := Lib.hid ⟨HBI.out.os, HBI.out.tape, HBI.out.output, HBI.out.size, HBI.out.block⟩
          have HOV : Hid (wr.drew.ownsRow Wt.heap.size 4 1 (.slice A9 x c9) x (bls b9 x)) := Lib.hid (World.ownsRow.drew HOV.out)
          refine Reg.wp_region_inv_lit (by kernel_rfl) (by kernel_rfl) (fun D vals W => Reg.Fx (fun k9 => ([some (.slice A9 x c9), some (.pointer (some ⟨PB, 0, none⟩)), some (.pointer (some ⟨PB, 0, none⟩)), some (.pointer (some ⟨PB, 0, none⟩)), some (.pointer (some ⟨P, 0, none⟩)), some (.agg #[.int .u64 (ow : Int), .int .u64 (xm : Int), .int .u64 (xx : Int), .slice RA rn rc]), some (.int .u64 (x : Int)), some (.bool (b9 x)), none, none, none] : List (Option Value)).getD k9 none) D vals ∧ Below Wt.heap.size Wt W ∧ (D 9 = false → W.ownsRow Wt.heap.size 4 1 (.slice A9 x c9) x (bls b9 x)) ∧ (D 8 = true → D 9 = false → ∃ g, vals 8 = .slice (some ⟨g, 0, none⟩) 1 1 ∧ Blk W g 4 #[.bool (b9 x)]) ∧ (D 9 = true → W.ownsRow Wt.heap.size 4 1 (vals 9) (x + 1) (bls b9 (x + 1))) ∧ (D 10 = true → D 9 = true ∧ vals 10 = vals 9) ∧ (D 9 = true → D 0 = true)) ⟨Reg.Fx.init _ _, HBV.out, fun _ => HOV.out, nofun, nofun, nofun, nofun⟩ (fun Q' => ?_) ?_
          · refine Reg.Steps.cons (k' := 1) rfl ?_ ?_
            · intro D vals a W hR hd hde ev K' hK
              have h10 : D 10 = false := by
                cases h : D 10 with
                | false => rfl
                | true => exact absurd (hR.2.2.2.2.2.2 (hR.2.2.2.2.2.1 h).1) (by rw [hd]; simp)
              have x10 : a.tmps[10]? = some (.slice A9 x c9) := (ev.old 10 10 (by kernel_rfl) h10).trans rfl
              clear hde ev hd h10
              go_simp
              exact hK _ _ ⟨hR.1.step (.inr rfl), hR.2.1, hR.2.2.1, hR.2.2.2.1, hR.2.2.2.2.1, hR.2.2.2.2.2.1, fun _ => rfl⟩
            refine Reg.Steps.cons (k' := 2) rfl ?_ ?_
            · intro D vals a W hR hd hde ev K' hK
              have x5 : a.tmps[5]? = some (.pointer (some ⟨PB, 0, none⟩)) := (ev.out 5 (by kernel_rfl)).trans rfl
              clear hde ev hd
              go_simp
              exact hK _ _ ⟨hR.1.step (.inr rfl), hR.2⟩
            refine Reg.Steps.cons (k' := 3) rfl ?_ ?_
            · intro D vals a W hR hd hde ev K' hK
              have d1 := Reg.dep hde 1 rfl
              have x39 : a.tmps[39]? = some (.pointer (some ⟨PB, 0, none⟩)) := ev.got hR.1 1 39 _ rfl rfl d1
              clear hde ev hd
              go_simp
              exact hK _ _ ⟨hR.1.step (.inr rfl), hR.2⟩
            refine Reg.Steps.cons (k' := 4) rfl ?_ ?_
            · intro D vals a W hR hd hde ev K' hK
              have d2 := Reg.dep hde 2 rfl
              have x40 : a.tmps[40]? = some (.pointer (some ⟨PB, 0, none⟩)) := ev.got hR.1 2 40 _ rfl rfl d2
              clear hde ev hd
              go_simp
              exact hK _ _ ⟨hR.1.step (.inr rfl), hR.2⟩
            refine Reg.Steps.cons (k' := 5) rfl ?_ ?_
            · intro D vals a W hR hd hde ev K' hK
              have d3 := Reg.dep hde 3 rfl
              have x41 : a.tmps[41]? = some (.pointer (some ⟨PB, 0, none⟩)) := ev.got hR.1 3 41 _ rfl rfl d3
              have q := (HPST.out W hR.2.1).pb.cell 0
              clear hde ev hd
              go_simp
              exact hK _ _ ⟨hR.1.step (.inr rfl), hR.2⟩
            refine Reg.Steps.cons (k' := 6) rfl ?_ ?_
            · intro D vals a W hR hd hde ev K' hK
              have x9 : a.tmps[9]? = some (.pointer (some ⟨gS, 0, none⟩)) := (ev.out 9 (by kernel_rfl)).trans rfl
              have ks := HKS.out.below hR.2.1 HKS.out.lt
              have q0 := ks.cell 0
              have q1 := ks.cell 1
              have q2 := ks.cell 2
              have q3 := ks.cell 3
              clear ks
              clear hde ev hd
              go_simp
              exact hK _ _ ⟨hR.1.step (.inr rfl), hR.2⟩
            refine Reg.Steps.cons (k' := 7) rfl ?_ ?_
            · intro D vals a W hR hd hde ev K' hK
              have x11 : a.tmps[11]? = some (.int .u64 (x : Int)) := (ev.out 11 (by kernel_rfl)).trans rfl
              clear hde ev hd
              go_simp
              exact hK _ _ ⟨hR.1.step (.inr rfl), hR.2⟩
            refine Reg.Steps.cons (k' := 8) rfl ?_ ?_
            · intro D vals a W hR hd hde ev K' hK
              have d4 := Reg.dep hde 4 rfl
              have x42 : a.tmps[42]? = some (.pointer (some ⟨P, 0, none⟩)) := ev.got hR.1 4 42 _ rfl rfl d4
              have d5 := Reg.dep hde 5 rfl
              have x43 : a.tmps[43]? = some (.agg #[.int .u64 (ow : Int), .int .u64 (xm : Int), .int .u64 (xx : Int), .slice RA rn rc]) := ev.got hR.1 5 43 _ rfl rfl d5
              have d6 := Reg.dep hde 6 rfl
              have x44 : a.tmps[44]? = some (.int .u64 (x : Int)) := ev.got hR.1 6 44 _ rfl rfl d6
              have CC := Lib.hid (HSEE.out W hR.2.1 x HX9.out)
              have HR1 := Lib.hid hR
              clear hde ev hd hR
              go_simp
              refine CC.out.mono ?_
              rintro e W1 ⟨rfl, hb⟩
              exact hK _ _ ⟨HR1.out.1.step (.inr rfl), HR1.out.2.1.trans (hb.mono HR1.out.2.1.size), fun h => own_below (HR1.out.2.2.1 h) hb, fun h1 h2 => by obtain ⟨g, e, hg⟩ := HR1.out.2.2.2.1 h1 h2; exact ⟨g, e, hg.below hb hg.lt⟩, fun h => own_below (HR1.out.2.2.2.2.1 h) hb, HR1.out.2.2.2.2.2⟩
            refine Reg.Steps.cons (k' := 9) rfl ?_ ?_
            · intro D vals a W hR hd hde ev K' hK
              have d7 := Reg.dep hde 7 rfl
              have x45 : a.tmps[45]? = some (.bool (b9 x)) := ev.got hR.1 7 45 _ rfl rfl d7
              have HR1 := Lib.hid hR
              clear hde ev hR hd
              go_simp
              exact hK _ _ ⟨HR1.out.1.step (.inl rfl), HR1.out.2.1.alloc HR1.out.2.1.size _, fun h => World.ownsRow.alloc (HR1.out.2.2.1 h) _, fun _ _ => ⟨_, rfl, Blk.new _ _ _⟩, fun h => World.ownsRow.alloc (HR1.out.2.2.2.2.1 h) _, HR1.out.2.2.2.2.2⟩
            refine Reg.Steps.cons (k' := 10) rfl ?_ ?_
            · intro D vals a W hR hd hde ev K' hK
              have d0 := Reg.dep hde 0 rfl
              have x38 : a.tmps[38]? = some (.slice A9 x c9) := ev.got hR.1 0 38 _ rfl rfl d0
              have dL := Reg.dep hde 8 rfl
              obtain ⟨g7, e1, hb7⟩ := hR.2.2.2.1 dL hd
              have xL : a.tmps[46]? = some _ := ev.done 8 46 rfl dL
              rw [e1] at xL
              have hown := hR.2.2.1 hd
              obtain ⟨i, hi, hz0, hz1, hz2⟩ := info_parts infoBo
              rw [if_pos (Reg.wanted_none rfl)]
              refine wp_append_mem W _ _ _ rfl Wt.heap.size 4 i _ 1 1 Try.underlying60 hi hz0 hz1 hz2 rfl (by omega) _ x _ (Reg.eval_of x38) hown W.heap.size _ 1 [.bool (b9 x)] (Reg.eval_of xL) (lies_blk hb7 rfl) (by intro u hu; simp at hu; subst hu; rfl) (by have := HX60.out; unfold maxLen; omega) (by have := HX60.out; omega) hR.2.1.size ?_
              intro v7 W1 ho7 hk7
              refine hK v7 W1 ⟨hR.1.step (.inl rfl), hR.2.1.trans (hk7.below hR.2.1.size fun g hg => (World.ownsRow.lt hown g hg).1), fun h => absurd h (by rw [Reg.upd_self]; simp), fun _ h => absurd h (by rw [Reg.upd_self]; simp), fun _ => ?_, fun h => ?_, fun _ => d0⟩
              · show W1.ownsRow Wt.heap.size 4 1 v7 (x + 1) (bls b9 (x + 1))
                rw [bls_succ]
                exact ho7
              · have h10 : D 10 = true := h
                have := (hR.2.2.2.2.2.1 h10).1
                rw [hd] at this
                cases this
            refine Reg.Steps.cons (k' := 11) rfl ?_ ?_
            · intro D vals a W hR hd hde ev K' hK
              have dL := Reg.dep hde 9 rfl
              have xL : a.tmps[47]? = some (vals 9) := ev.done 9 47 rfl dL
              have HR1 := Lib.hid hR
              clear hde ev hR hd
              go_simp
              exact hK (vals 9) _ ⟨HR1.out.1.step (.inl rfl), HR1.out.2.1, HR1.out.2.2.1, HR1.out.2.2.2.1, HR1.out.2.2.2.2.1, fun _ => ⟨dL, rfl⟩, HR1.out.2.2.2.2.2.2⟩
            exact Reg.Steps.nil
          · intro D vals W2 hD hR
            have ho := hR.2.2.2.2.1 (hD 9 (by decide))
            have e10 := (hR.2.2.2.2.2.1 (hD 10 (by decide))).2
            have HB2 := Lib.hid hR.2.1
            obtain ⟨A10, c10, e9, -⟩ := Sl.of_own ho
            rw [e9] at ho e10
            have HO2 := Lib.hid ho
            clear hR hD ho
            simp only [Reg.fin, Act.put, List.setIfInBounds_toArray, List.set_cons_zero, List.set_cons_succ, e10]
            clear e10 e9
            generalize vals 0 = z0; generalize vals 1 = z1; generalize vals 2 = z2; generalize vals 3 = z3; generalize vals 4 = z4; generalize vals 5 = z5; generalize vals 6 = z6; generalize vals 7 = z7; generalize vals 8 = z8; generalize vals 9 = z9
            clear vals
            go_wp2_with fail
            go_roundw
            case rel => exact ⟨x + 1, by omega, by go_num, A10, c10, rfl, HO2.out, HB2.out⟩
            case measure => simp [intOf]; omega
        · obtain rfl : x = 60 := by omega
          have HOW : Hid (wr.ownsRow w2.heap.size 4 1 (.slice A9 60 c9) 60 (bls (bqOf S sl t) 60)) := Lib.hid (by rw [HB9.out]; exact own_mono HOV.out HWS4.out.bel.size)
          have HWS5 := Lib.hid (HWS4.out.below HBI.out)
          have ht40 : t < 40 := by omega
          go_wp2_with (first | (at_builtin; go_loud (refine wpl_app_w rfl (.tmp 49) (.tmp 51) rfl w2.heap.size _ t ws rfl (World.ownsRow.alloc HWS5.out.own _) _ _ 1 _ rfl (lies_lit _ _ _ 1 1 rfl) (by intro u hu; simp at hu; subst hu; rfl) (by omega) (by rw [size_alloc]; have := HWS5.out.bel.size; omega) ?_; intro v1 w8 hown1 hk1; obtain ⟨A9', c9', hv9, hs9⟩ := HWS5.out.app HOW.out hown1 hk1; subst hv9; have HW9 := Lib.hid hs9; clear hown1 hk1 hs9)) | fail)
          go_roundw
          case rel => exact ⟨t + 1, by omega, by go_num, A9', c9', _, rfl, HW9.out⟩
          case measure => simp [intOf]; omega
    · obtain rfl : p = t := by omega
      have HPS3 := Lib.hid (HPSW.out wr HWS.out.bel)
      have HT3 : Hid (Turn K w2 wr) := Lib.hid (Turn.of_below HWS.out.bel)
      obtain ⟨K2, hK2⟩ : ∃ K2, K2 = New K w2 wr := ⟨_, rfl⟩
      have HAP3 : Hid (AP w1 wr K2 P Q 1 S S) := Lib.hid (by rw [hK2]; exact HPS.out.ap.grow HT3.out HPS.out.kge)
      have HKK : Hid (∀ g, K g → K2 g) := Lib.hid (fun g hg => by rw [hK2]; exact .inl hg)
      have HKN : Hid (∀ g, w2.heap.size ≤ g → g < wr.heap.size → K2 g) := Lib.hid (fun g h1 h2 => by rw [hK2]; exact .inr ⟨h1, h2⟩)
      have HCA3 := Lib.hid (HPS3.out.slA HP.out)
      clear hK2 HT3 htp
      go_wp2_with fail
      generalize hW3 : wr = W3 at *
      clear hW3 wr
      go_loopw [56] (fun i wr => ∃ q : Nat, q ≤ bn ∧ i = .int .i64 q ∧ ∃ S', AP w1 wr K2 P Q 1 S' S ∧ (∀ s ∈ S', 1 ≤ s ∧ s ≤ 3) ∧ Later S S' ∧ KeepK K2 W3 wr) (fun i _ => bn - (intOf i).toNat)
      case atStart => exact ⟨0, by omega, rfl, S, HAP3.out, HPS3.out.ok, Later.refl S, fun _ _ => rfl⟩
      case round =>
        obtain ⟨q, hq, rfl, S', hap, hoks, hlat, hkp⟩ := hrel
        have HAP := Lib.hid hap
        have HOKS := Lib.hid hoks
        have HLAT := Lib.hid hlat
        have HKP := Lib.hid hkp
        clear hap hoks hlat hkp
        by_cases hlq : q < bn
        · have hlq' : (q : Int) < bn := by omega
          obtain ⟨o, ho⟩ : ∃ o, bl[q]? = some o := ⟨_, List.getElem?_eq_getElem (by rw [HBL.out]; exact hlq)⟩
          obtain ⟨ad, rfl, x0, x1⟩ := o10_cells HBS.out (bel_trans HB1.out HAP.out.bel) ho HBL.out
          obtain ⟨hd, hx⟩ := HBOK.out o (List.mem_of_getElem? ho)
          obtain ⟨d, y⟩ := o
          have hd : d < 256 := hd
          have hx : y < 18446744073709551616 := hx
          clear ho
          by_cases h30 : 30 ≤ q
          · have h30' : (30 : Int) ≤ q := by omega
            have HA7 := Lib.hid (HAP.out.below (bel_alloc wr (.cells #[.int .u8 (d : Int), .int .u64 (y : Int)] 62)))
            have HK7 : Hid (KeepK K2 W3 (wr.alloc (.cells #[.int .u8 (d : Int), .int .u64 (y : Int)] 62))) := Lib.hid (fun g hg => (HA7.out.2 g hg).trans (HKP.out g hg))
            have HAE : Hid (AP w1 (wr.alloc (.cells #[.int .u8 (d : Int), .int .u64 (y : Int)] 62)) K2 P Q 1 S' S) := Lib.hid HA7.out.1
            have HPB4 := Lib.hid (HK7.out.blk HPS3.out.pb (HKK.out _ HPS3.out.kPB))
            have q2 := HPB4.out.cell 2
            rw [HP.out] at q2
            simp only [List.getElem?_toArray, List.getElem?_cons_zero, List.getElem?_cons_succ] at q2
            go_wp2_with fail
            clear q2
            generalize hW4 : (wr.alloc (.cells #[.int .u8 (d : Int), .int .u64 (y : Int)] 62)) = W4 at *
            clear hW4
            have HCA4 : Hid (Sl W4 W4.heap.size 4 A1 p c1 (cas sl)) := Lib.hid (by
              have h := own_keep HPS3.out.oa (w' := W4) fun g hg => HK7.out g (HKK.out g (HPS3.out.kA g hg))
              rw [HP.out] at h
              obtain ⟨A', c', e, hs⟩ := Sl.of_own h
              injection e with e1 _ e3
              subst e1 e3
              exact hs)
            go_loopw [97] (fun i wo => ∃ t : Nat, t ≤ p ∧ i = .int .i64 t ∧ Below W4.heap.size W4 wo) (fun i _ => p - (intOf i).toNat)
            case atStart => exact ⟨0, by omega, rfl, Below.refl _ _⟩
            case round =>
              obtain ⟨t, ht, rfl, hbo⟩ := hrel
              have HBO := Lib.hid hbo
              clear hbo
              by_cases htp : t < p
              · have htp' : (t : Int) < p := by omega
                obtain ⟨sp, hsp⟩ : ∃ sp, sl[t]? = some sp := ⟨_, List.getElem?_eq_getElem (by rw [HP.out]; exact htp)⟩
                obtain ⟨ad3, rfl, y0, y1, y2, y3⟩ := cas_cells HCA4.out HBO.out hsp HP.out
                have HSPM := Lib.hid (List.mem_of_getElem? hsp)
                have hbq := bqOf_at (S := S) hsp
                clear hsp
                obtain ⟨ow, xm, xx, run, RA, rc, RB, rd⟩ := sp
                obtain ⟨rn, hrn⟩ : ∃ rn, run.length = rn := ⟨_, rfl⟩
                have HSAME : Hid (∀ x, x ≠ ow → seesB 1 S' ow xx run x = bqOf S sl t x) := Lib.hid (fun x hx => by
                  rw [hbq]
                  exact sees_stays (s := ⟨ow, xm, xx, run, RA, rc, RB, rd⟩) (HPS3.out.sp _ HSPM.out).2 HLAT.out hx)
                have HSE1 : Hid (∀ W, Below W4.heap.size W4 W → ∀ (x : Nat), x < 18446744073709551616 → Calls Try.prog 19 #[.pointer (some ⟨P, 0, none⟩), .agg #[.int .u64 (ow : Int), .int .u64 (xm : Int), .int .u64 (xx : Int), .slice RA rn rc], .int .u64 (x : Int)] W fun e w' => e = .returned (.bool (seesB 1 S' ow xx run x)) ∧ Below W.heap.size W w') := Lib.hid (fun W h x hx => by
                  obtain ⟨F, hal⟩ := (HAE.out.below h).1.al
                  have hm := (HPS3.out.sp _ HSPM.out).1
                  have hsl : SlU W4 RA rc run := hm.a.keep' fun ad h0 e => ⟨HK7.out _ (HKK.out _ (hm.ka ad h0 e)), by
                    obtain ⟨F, G, _, _, _, _, _, h6, _⟩ := HAE.out
                    exact (h6 _ (HKK.out _ (hm.ka ad h0 e))).2.2⟩
                  have := sees_any hal HOKS.out (own := ow) (xmin := xm) (xmax := xx) (Sl.on hsl h) hx
                  rw [← hrn]
                  exact this)
                obtain ⟨gW, hgW⟩ : ∃ gW, A2 = some ⟨gW, 0, none⟩ := by
                  obtain ⟨g, cap, e, _⟩ := World.ownsRow.form HWS.out.own (by omega)
                  injection e with e1
                  exact ⟨g, e1⟩
                subst hgW
                obtain ⟨Bj, dj, hwj, hoj⟩ := HWS.out.el t htp
                obtain ⟨gj, hgj⟩ : ∃ gj, Bj = some ⟨gj, 0, none⟩ := by
                  obtain ⟨g, cap, e, _⟩ := World.ownsRow.form hoj (by omega)
                  injection e with e1
                  exact ⟨g, e1⟩
                subst hgj
                have hsj := (Sl.of_own hoj)
                have hdj : 60 ≤ dj := by obtain ⟨A', c', e, hs⟩ := hsj; injection e with e1 _ e3; rw [e3]; exact hs.le
                have hdj2 : dj ≤ 9223372036854775807 := by obtain ⟨A', c', e, hs⟩ := hsj; injection e with e1 _ e3; rw [e3]; have := hs.cap; unfold maxLen at this; omega
                have hsw := (Sl.of_own HWS.out.own)
                have hc2 : p ≤ c2 := by obtain ⟨A', c', e, hs⟩ := hsw; injection e with e1 _ e3; rw [e3]; exact hs.le
                have hc22 : c2 ≤ 9223372036854775807 := by obtain ⟨A', c', e, hs⟩ := hsw; injection e with e1 _ e3; rw [e3]; have := hs.cap; unfold maxLen at this; omega
                have HW4T : Hid (W4.cell? ⟨gW, t, none⟩ = some (.slice (some ⟨gj, 0, none⟩) 60 dj)) := Lib.hid (by
                  have ho := own_keep HWS.out.own (w' := W4) fun g hg => HK7.out g (HKN.out g (World.ownsRow.lt HWS.out.own g hg).1 (World.ownsRow.lt HWS.out.own g hg).2)
                  rw [World.ownsRow.cellAt ho t (by omega)]
                  exact hwj)
                have HW4B : Hid (∀ x, x < 60 → W4.cell? ⟨gj, x, none⟩ = some (.bool (bqOf S sl t x))) := Lib.hid (fun x hx => by
                  have ho := own_keep hoj (w' := W4) fun g hg => HK7.out g (HKN.out g (World.ownsRow.lt hoj g hg).1 (World.ownsRow.lt hoj g hg).2)
                  rw [World.ownsRow.cellAt ho x (by omega)]
                  exact bls_at hx)
                simp only [hrn] at y3
                clear hbq hrn HSPM hwj hoj hsj hsw
                go_wp2_with fail
                clear y0 y1 y2 y3
                have HB4 : Hid (Below W4.heap.size W4 (wr.alloc (.cells #[.int .u64 (ow : Int), .int .u64 (xm : Int), .int .u64 (xx : Int), .slice RA rn rc] 48))) := Lib.hid (HBO.out.alloc HBO.out.size _)
                have HK4 : Hid (Blk (wr.alloc (.cells #[.int .u64 (ow : Int), .int .u64 (xm : Int), .int .u64 (xx : Int), .slice RA rn rc] 48)) wr.heap.size 48 #[.int .u64 (ow : Int), .int .u64 (xm : Int), .int .u64 (xx : Int), .slice RA rn rc]) := Lib.hid (Blk.new _ _ _)
                generalize (wr.alloc (.cells #[.int .u64 (ow : Int), .int .u64 (xm : Int), .int .u64 (xx : Int), .slice RA rn rc] 48)) = W5 at *
                generalize wr.heap.size = gS at *
                clear HBO
                go_loopw [102] (fun i wi => ∃ x : Nat, x ≤ 60 ∧ i = .int .u64 x ∧ Below W5.heap.size W5 wi) (fun i _ => 60 - (intOf i).toNat)
                case atStart => exact ⟨0, by omega, rfl, Below.refl _ _⟩
                case round =>
                  obtain ⟨x, hx, rfl, hbi⟩ := hrel
                  have HB6 := Lib.hid hbi
                  clear hbi
                  by_cases hx60 : x < 60
                  · have hx60' : (x : Int) < 60 := by omega
                    obtain ⟨bb, hbb⟩ : ∃ bb, bqOf S sl t x = bb := ⟨_, rfl⟩
                    go_wp2_with fail
                    have HB45 := Lib.hid (HB4.out.trans (HB6.out.mono HB4.out.size))
                    have HKS := Lib.hid (HK4.out.below HB6.out HK4.out.lt)
                    have HWT : Hid (∀ W, Below wr.heap.size wr W → W.cell? ⟨gW, t, none⟩ = some (.slice (some ⟨gj, 0, none⟩) 60 dj)) := Lib.hid (fun W h => cell_keep (HB45.out.trans (h.mono HB45.out.size)) HW4T.out)
                    have HWB : Hid (∀ W, Below wr.heap.size wr W → W.cell? ⟨gj, x, none⟩ = some (.bool bb)) := Lib.hid (fun W h => cell_keep (HB45.out.trans (h.mono HB45.out.size)) (by rw [HW4B.out x hx60, hbb]))
                    have HPBW : Hid (∀ W, Below W4.heap.size W4 W → W.cell? ⟨PB, 0, none⟩ = some (.pointer (some ⟨P, 0, none⟩))) := Lib.hid (fun W h => cell_keep h (HPB4.out.cell 0))
                    generalize hV : wr = V at *
                    clear hV
                    by_cases hne : x = ow
                    · have hne' : ((x : Int) == (ow : Int)) = true := by rw [beq_iff_eq]; omega
                      have hne3 : ((x : Int) != (ow : Int)) = false := by rw [bne, hne']; rfl
                      have hne4 : (x != ow) = false := by rw [bne, beq_iff_eq.2 hne]; rfl
                      clear hne hne'
                      refine Reg.wp_region_inv_lit (by kernel_rfl) (by kernel_rfl) (fun D vals W => Reg.Fx (fun k9 => ([some (.int .u64 (x : Int)), some (.pointer (some ⟨gS, 0, none⟩)), some (.int .u64 (ow : Int)), some (.bool false), some (.bool false), some (undef), some (undef), some (undef), some (undef), some (undef), some (undef), some (undef), some (undef), some (undef), some (undef), some (undef), some (undef), some (undef), some (undef), some (undef), some (.bool false)] : List (Option Value)).getD k9 none) D vals ∧ Below V.heap.size V W) ⟨Reg.Fx.init _ _, ⟨rfl, rfl, rfl, Nat.le_refl _, fun _ _ => rfl⟩⟩ (fun Q' => ?_) ?_
                      · refine Reg.Steps.cons (k' := 1) rfl ?_ ?_
                        · intro D vals a W hR hd hde ev K' hK
                          have HB := hR.2
                          have x16 : a.tmps[16]? = some (.int .u64 (x : Int)) := (ev.out 16 (by kernel_rfl)).trans rfl
                          clear hde ev hd HB
                          go_simp
                          exact hK _ _ ⟨hR.1.step (.inr rfl), hR.2⟩
                        refine Reg.Steps.cons (k' := 2) rfl ?_ ?_
                        · intro D vals a W hR hd hde ev K' hK
                          have HB := hR.2
                          have x15 : a.tmps[15]? = some (.pointer (some ⟨gS, 0, none⟩)) := (ev.out 15 (by kernel_rfl)).trans rfl
                          clear hde ev hd HB
                          go_simp
                          exact hK _ _ ⟨hR.1.step (.inr rfl), hR.2⟩
                        refine Reg.Steps.cons (k' := 3) rfl ?_ ?_
                        · intro D vals a W hR hd hde ev K' hK
                          have HB := hR.2
                          have d1 := Reg.dep hde 1 rfl
                          have x106 : a.tmps[106]? = some (.pointer (some ⟨gS, 0, none⟩)) := ev.got hR.1 1 106 _ rfl rfl d1
                          have q := (HKS.out.below HB HKS.out.lt).cell 0
                          clear hde ev hd HB
                          go_simp
                          exact hK _ _ ⟨hR.1.step (.inr rfl), hR.2⟩
                        refine Reg.Steps.cons (k' := 4) rfl ?_ ?_
                        · intro D vals a W hR hd hde ev K' hK
                          have HB := hR.2
                          have d0 := Reg.dep hde 0 rfl
                          have x105 : a.tmps[105]? = some (.int .u64 (x : Int)) := ev.got hR.1 0 105 _ rfl rfl d0
                          have d2 := Reg.dep hde 2 rfl
                          have x107 : a.tmps[107]? = some (.int .u64 (ow : Int)) := ev.got hR.1 2 107 _ rfl rfl d2
                          clear hde ev hd HB
                          go_simp
                          exact hK _ _ ⟨hR.1.step (.inr rfl), hR.2⟩
                        refine Reg.Steps.cons (k' := 5) rfl ?_ ?_
                        · intro D vals a W hR hd hde ev K' hK
                          have HB := hR.2
                          have d3 := Reg.dep hde 3 rfl
                          have x108 : a.tmps[108]? = some (.bool false) := ev.got hR.1 3 108 _ rfl rfl d3
                          clear hde ev hd HB
                          go_simp
                          exact hK _ _ ⟨hR.1.step (.inr rfl), hR.2⟩
                        refine Reg.Steps.cons (k' := 6) rfl ?_ ?_
                        · intro D vals a W hR hd hde ev K' hK
                          have HB := hR.2
                          have dg := Reg.dep hde 4 rfl
                          have xg : a.tmps[109]? = some (.bool false) := ev.got hR.1 4 109 _ rfl rfl dg
                          rw [if_neg (Reg.wanted_not rfl (Reg.yielded_of (t := 109) rfl xg) (by decide))]
                          exact hK _ _ ⟨hR.1.step (.inr rfl), HB⟩
                        refine Reg.Steps.cons (k' := 7) rfl ?_ ?_
                        · intro D vals a W hR hd hde ev K' hK
                          have HB := hR.2
                          have dg := Reg.dep hde 4 rfl
                          have xg : a.tmps[109]? = some (.bool false) := ev.got hR.1 4 109 _ rfl rfl dg
                          rw [if_neg (Reg.wanted_not rfl (Reg.yielded_of (t := 109) rfl xg) (by decide))]
                          exact hK _ _ ⟨hR.1.step (.inr rfl), HB⟩
                        refine Reg.Steps.cons (k' := 8) rfl ?_ ?_
                        · intro D vals a W hR hd hde ev K' hK
                          have HB := hR.2
                          have dg := Reg.dep hde 4 rfl
                          have xg : a.tmps[109]? = some (.bool false) := ev.got hR.1 4 109 _ rfl rfl dg
                          rw [if_neg (Reg.wanted_not rfl (Reg.yielded_of (t := 109) rfl xg) (by decide))]
                          exact hK _ _ ⟨hR.1.step (.inr rfl), HB⟩
                        refine Reg.Steps.cons (k' := 9) rfl ?_ ?_
                        · intro D vals a W hR hd hde ev K' hK
                          have HB := hR.2
                          have dg := Reg.dep hde 4 rfl
                          have xg : a.tmps[109]? = some (.bool false) := ev.got hR.1 4 109 _ rfl rfl dg
                          rw [if_neg (Reg.wanted_not rfl (Reg.yielded_of (t := 109) rfl xg) (by decide))]
                          exact hK _ _ ⟨hR.1.step (.inr rfl), HB⟩
                        refine Reg.Steps.cons (k' := 10) rfl ?_ ?_
                        · intro D vals a W hR hd hde ev K' hK
                          have HB := hR.2
                          have dg := Reg.dep hde 4 rfl
                          have xg : a.tmps[109]? = some (.bool false) := ev.got hR.1 4 109 _ rfl rfl dg
                          rw [if_neg (Reg.wanted_not rfl (Reg.yielded_of (t := 109) rfl xg) (by decide))]
                          exact hK _ _ ⟨hR.1.step (.inr rfl), HB⟩
                        refine Reg.Steps.cons (k' := 11) rfl ?_ ?_
                        · intro D vals a W hR hd hde ev K' hK
                          have HB := hR.2
                          have dg := Reg.dep hde 4 rfl
                          have xg : a.tmps[109]? = some (.bool false) := ev.got hR.1 4 109 _ rfl rfl dg
                          rw [if_neg (Reg.wanted_not rfl (Reg.yielded_of (t := 109) rfl xg) (by decide))]
                          exact hK _ _ ⟨hR.1.step (.inr rfl), HB⟩
                        refine Reg.Steps.cons (k' := 12) rfl ?_ ?_
                        · intro D vals a W hR hd hde ev K' hK
                          have HB := hR.2
                          have dg := Reg.dep hde 4 rfl
                          have xg : a.tmps[109]? = some (.bool false) := ev.got hR.1 4 109 _ rfl rfl dg
                          rw [if_neg (Reg.wanted_not rfl (Reg.yielded_of (t := 109) rfl xg) (by decide))]
                          exact hK _ _ ⟨hR.1.step (.inr rfl), HB⟩
                        refine Reg.Steps.cons (k' := 13) rfl ?_ ?_
                        · intro D vals a W hR hd hde ev K' hK
                          have HB := hR.2
                          have dg := Reg.dep hde 4 rfl
                          have xg : a.tmps[109]? = some (.bool false) := ev.got hR.1 4 109 _ rfl rfl dg
                          rw [if_neg (Reg.wanted_not rfl (Reg.yielded_of (t := 109) rfl xg) (by decide))]
                          exact hK _ _ ⟨hR.1.step (.inr rfl), HB⟩
                        refine Reg.Steps.cons (k' := 14) rfl ?_ ?_
                        · intro D vals a W hR hd hde ev K' hK
                          have HB := hR.2
                          have dg := Reg.dep hde 4 rfl
                          have xg : a.tmps[109]? = some (.bool false) := ev.got hR.1 4 109 _ rfl rfl dg
                          rw [if_neg (Reg.wanted_not rfl (Reg.yielded_of (t := 109) rfl xg) (by decide))]
                          exact hK _ _ ⟨hR.1.step (.inr rfl), HB⟩
                        refine Reg.Steps.cons (k' := 15) rfl ?_ ?_
                        · intro D vals a W hR hd hde ev K' hK
                          have HB := hR.2
                          have dg := Reg.dep hde 4 rfl
                          have xg : a.tmps[109]? = some (.bool false) := ev.got hR.1 4 109 _ rfl rfl dg
                          rw [if_neg (Reg.wanted_not rfl (Reg.yielded_of (t := 109) rfl xg) (by decide))]
                          exact hK _ _ ⟨hR.1.step (.inr rfl), HB⟩
                        refine Reg.Steps.cons (k' := 16) rfl ?_ ?_
                        · intro D vals a W hR hd hde ev K' hK
                          have HB := hR.2
                          have dg := Reg.dep hde 4 rfl
                          have xg : a.tmps[109]? = some (.bool false) := ev.got hR.1 4 109 _ rfl rfl dg
                          rw [if_neg (Reg.wanted_not rfl (Reg.yielded_of (t := 109) rfl xg) (by decide))]
                          exact hK _ _ ⟨hR.1.step (.inr rfl), HB⟩
                        refine Reg.Steps.cons (k' := 17) rfl ?_ ?_
                        · intro D vals a W hR hd hde ev K' hK
                          have HB := hR.2
                          have dg := Reg.dep hde 4 rfl
                          have xg : a.tmps[109]? = some (.bool false) := ev.got hR.1 4 109 _ rfl rfl dg
                          rw [if_neg (Reg.wanted_not rfl (Reg.yielded_of (t := 109) rfl xg) (by decide))]
                          exact hK _ _ ⟨hR.1.step (.inr rfl), HB⟩
                        refine Reg.Steps.cons (k' := 18) rfl ?_ ?_
                        · intro D vals a W hR hd hde ev K' hK
                          have HB := hR.2
                          have dg := Reg.dep hde 4 rfl
                          have xg : a.tmps[109]? = some (.bool false) := ev.got hR.1 4 109 _ rfl rfl dg
                          rw [if_neg (Reg.wanted_not rfl (Reg.yielded_of (t := 109) rfl xg) (by decide))]
                          exact hK _ _ ⟨hR.1.step (.inr rfl), HB⟩
                        refine Reg.Steps.cons (k' := 19) rfl ?_ ?_
                        · intro D vals a W hR hd hde ev K' hK
                          have HB := hR.2
                          have dg := Reg.dep hde 4 rfl
                          have xg : a.tmps[109]? = some (.bool false) := ev.got hR.1 4 109 _ rfl rfl dg
                          rw [if_neg (Reg.wanted_not rfl (Reg.yielded_of (t := 109) rfl xg) (by decide))]
                          exact hK _ _ ⟨hR.1.step (.inr rfl), HB⟩
                        refine Reg.Steps.cons (k' := 20) rfl ?_ ?_
                        · intro D vals a W hR hd hde ev K' hK
                          have HB := hR.2
                          have dg := Reg.dep hde 4 rfl
                          have xg : a.tmps[109]? = some (.bool false) := ev.got hR.1 4 109 _ rfl rfl dg
                          rw [if_neg (Reg.wanted_not rfl (Reg.yielded_of (t := 109) rfl xg) (by decide))]
                          exact hK _ _ ⟨hR.1.step (.inr rfl), HB⟩
                        refine Reg.Steps.cons (k' := 21) rfl ?_ ?_
                        · intro D vals a W hR hd hde ev K' hK
                          have HB := hR.2
                          have d4 := Reg.dep hde 4 rfl
                          have x109 : a.tmps[109]? = some (.bool false) := ev.got hR.1 4 109 _ rfl rfl d4
                          have d19 := Reg.dep hde 19 rfl
                          have x124 : a.tmps[124]? = some (undef) := ev.got hR.1 19 124 _ rfl rfl d19
                          clear hde ev hd HB
                          go_simp
                          exact hK _ _ ⟨hR.1.step (.inr rfl), hR.2⟩
                        exact Reg.Steps.nil
                      · intro D vals W2 hD hR
                        have hB2 := hR.2
                        have ev20 := hR.1 20 _ rfl (hD 20 (by decide))
                        clear hR hD
                        simp only [Reg.fin, Act.put, List.setIfInBounds_toArray, List.set_cons_zero, List.set_cons_succ, ev20]
                        clear ev20
                        generalize vals 0 = z0; generalize vals 1 = z1; generalize vals 2 = z2; generalize vals 3 = z3; generalize vals 4 = z4; generalize vals 5 = z5; generalize vals 6 = z6; generalize vals 7 = z7; generalize vals 8 = z8; generalize vals 9 = z9; generalize vals 10 = z10; generalize vals 11 = z11; generalize vals 12 = z12; generalize vals 13 = z13; generalize vals 14 = z14; generalize vals 15 = z15; generalize vals 16 = z16; generalize vals 17 = z17; generalize vals 18 = z18; generalize vals 19 = z19
                        clear vals
                        have HBF := Lib.hid (HB6.out.trans (hB2.mono HB6.out.size))
                        clear hB2
                        go_wp2_with fail
                        go_roundw
                        case rel => exact ⟨x + 1, by omega, by go_num, HBF.out⟩
                        case measure => simp [intOf]; omega
                    · have hne' : ((x : Int) == (ow : Int)) = false := by rw [beq_eq_false_iff_ne]; omega
                      have hne3 : ((x : Int) != (ow : Int)) = true := by rw [bne, hne']; rfl
                      have hne4 : (x != ow) = true := by rw [bne, beq_eq_false_iff_ne.2 hne]; rfl
                      have HSE2 : Hid (∀ W, Below W4.heap.size W4 W → Calls Try.prog 19 #[.pointer (some ⟨P, 0, none⟩), .agg #[.int .u64 (ow : Int), .int .u64 (xm : Int), .int .u64 (xx : Int), .slice RA rn rc], .int .u64 (x : Int)] W fun e w' => e = .returned (.bool bb) ∧ Below W.heap.size W w') := Lib.hid (fun W h => by
                        have := HSE1.out W h x (by omega)
                        rw [HSAME.out x hne, hbb] at this
                        exact this)
                      clear hbb hne hne'
                      refine Reg.wp_region_inv_lit (by kernel_rfl) (by kernel_rfl) (fun D vals W => Reg.Fx (fun k9 => ([some (.int .u64 (x : Int)), some (.pointer (some ⟨gS, 0, none⟩)), some (.int .u64 (ow : Int)), some (.bool true), some (.bool true), some (.pointer (some ⟨PB, 0, none⟩)), some (.pointer (some ⟨PB, 0, none⟩)), some (.pointer (some ⟨PB, 0, none⟩)), some (.pointer (some ⟨P, 0, none⟩)), some (.agg #[.int .u64 (ow : Int), .int .u64 (xm : Int), .int .u64 (xx : Int), .slice RA rn rc]), some (.int .u64 (x : Int)), some (.bool bb), some (.slice (some ⟨gW, 0, none⟩) p c2), some (.int .i64 (t : Int)), some (.pointer (some ⟨gW, t, none⟩)), some (.slice (some ⟨gj, 0, none⟩) 60 dj), some (.int .u64 (x : Int)), some (.pointer (some ⟨gj, x, none⟩)), some (.bool bb), some (.bool false), some (.bool false)] : List (Option Value)).getD k9 none) D vals ∧ Below V.heap.size V W) ⟨Reg.Fx.init _ _, ⟨rfl, rfl, rfl, Nat.le_refl _, fun _ _ => rfl⟩⟩ (fun Q' => ?_) ?_
                      · refine Reg.Steps.cons (k' := 1) rfl ?_ ?_
                        · intro D vals a W hR hd hde ev K' hK
                          have HB := hR.2
                          have x16 : a.tmps[16]? = some (.int .u64 (x : Int)) := (ev.out 16 (by kernel_rfl)).trans rfl
                          clear hde ev hd HB
                          go_simp
                          exact hK _ _ ⟨hR.1.step (.inr rfl), hR.2⟩
                        refine Reg.Steps.cons (k' := 2) rfl ?_ ?_
                        · intro D vals a W hR hd hde ev K' hK
                          have HB := hR.2
                          have x15 : a.tmps[15]? = some (.pointer (some ⟨gS, 0, none⟩)) := (ev.out 15 (by kernel_rfl)).trans rfl
                          clear hde ev hd HB
                          go_simp
                          exact hK _ _ ⟨hR.1.step (.inr rfl), hR.2⟩
                        refine Reg.Steps.cons (k' := 3) rfl ?_ ?_
                        · intro D vals a W hR hd hde ev K' hK
                          have HB := hR.2
                          have d1 := Reg.dep hde 1 rfl
                          have x106 : a.tmps[106]? = some (.pointer (some ⟨gS, 0, none⟩)) := ev.got hR.1 1 106 _ rfl rfl d1
                          have q := (HKS.out.below HB HKS.out.lt).cell 0
                          clear hde ev hd HB
                          go_simp
                          exact hK _ _ ⟨hR.1.step (.inr rfl), hR.2⟩
                        refine Reg.Steps.cons (k' := 4) rfl ?_ ?_
                        · intro D vals a W hR hd hde ev K' hK
                          have HB := hR.2
                          have d0 := Reg.dep hde 0 rfl
                          have x105 : a.tmps[105]? = some (.int .u64 (x : Int)) := ev.got hR.1 0 105 _ rfl rfl d0
                          have d2 := Reg.dep hde 2 rfl
                          have x107 : a.tmps[107]? = some (.int .u64 (ow : Int)) := ev.got hR.1 2 107 _ rfl rfl d2
                          clear hde ev hd HB
                          go_simp
                          exact hK _ _ ⟨hR.1.step (.inr rfl), hR.2⟩
                        refine Reg.Steps.cons (k' := 5) rfl ?_ ?_
                        · intro D vals a W hR hd hde ev K' hK
                          have HB := hR.2
                          have d3 := Reg.dep hde 3 rfl
                          have x108 : a.tmps[108]? = some (.bool true) := ev.got hR.1 3 108 _ rfl rfl d3
                          clear hde ev hd HB
                          go_simp
                          exact hK _ _ ⟨hR.1.step (.inr rfl), hR.2⟩
                        refine Reg.Steps.cons (k' := 6) rfl ?_ ?_
                        · intro D vals a W hR hd hde ev K' hK
                          have HB := hR.2
                          have dg := Reg.dep hde 4 rfl
                          have xg : a.tmps[109]? = some (.bool true) := ev.got hR.1 4 109 _ rfl rfl dg
                          rw [if_pos (Reg.wanted_of rfl (Reg.yielded_of (t := 109) rfl xg))]
                          have x5 : a.tmps[5]? = some (.pointer (some ⟨PB, 0, none⟩)) := (ev.out 5 (by kernel_rfl)).trans rfl
                          clear hde ev hd HB
                          go_simp
                          exact hK _ _ ⟨hR.1.step (.inr rfl), hR.2⟩
                        refine Reg.Steps.cons (k' := 7) rfl ?_ ?_
                        · intro D vals a W hR hd hde ev K' hK
                          have HB := hR.2
                          have dg := Reg.dep hde 4 rfl
                          have xg : a.tmps[109]? = some (.bool true) := ev.got hR.1 4 109 _ rfl rfl dg
                          rw [if_pos (Reg.wanted_of rfl (Reg.yielded_of (t := 109) rfl xg))]
                          have d5 := Reg.dep hde 5 rfl
                          have x110 : a.tmps[110]? = some (.pointer (some ⟨PB, 0, none⟩)) := ev.got hR.1 5 110 _ rfl rfl d5
                          clear hde ev hd HB
                          go_simp
                          exact hK _ _ ⟨hR.1.step (.inr rfl), hR.2⟩
                        refine Reg.Steps.cons (k' := 8) rfl ?_ ?_
                        · intro D vals a W hR hd hde ev K' hK
                          have HB := hR.2
                          have dg := Reg.dep hde 4 rfl
                          have xg : a.tmps[109]? = some (.bool true) := ev.got hR.1 4 109 _ rfl rfl dg
                          rw [if_pos (Reg.wanted_of rfl (Reg.yielded_of (t := 109) rfl xg))]
                          have d6 := Reg.dep hde 6 rfl
                          have x111 : a.tmps[111]? = some (.pointer (some ⟨PB, 0, none⟩)) := ev.got hR.1 6 111 _ rfl rfl d6
                          clear hde ev hd HB
                          go_simp
                          exact hK _ _ ⟨hR.1.step (.inr rfl), hR.2⟩
                        refine Reg.Steps.cons (k' := 9) rfl ?_ ?_
                        · intro D vals a W hR hd hde ev K' hK
                          have HB := hR.2
                          have dg := Reg.dep hde 4 rfl
                          have xg : a.tmps[109]? = some (.bool true) := ev.got hR.1 4 109 _ rfl rfl dg
                          rw [if_pos (Reg.wanted_of rfl (Reg.yielded_of (t := 109) rfl xg))]
                          have d7 := Reg.dep hde 7 rfl
                          have x112 : a.tmps[112]? = some (.pointer (some ⟨PB, 0, none⟩)) := ev.got hR.1 7 112 _ rfl rfl d7
                          have q := HPBW.out W (HB45.out.trans (HB.mono HB45.out.size))
                          clear hde ev hd HB
                          go_simp
                          exact hK _ _ ⟨hR.1.step (.inr rfl), hR.2⟩
                        refine Reg.Steps.cons (k' := 10) rfl ?_ ?_
                        · intro D vals a W hR hd hde ev K' hK
                          have HB := hR.2
                          have dg := Reg.dep hde 4 rfl
                          have xg : a.tmps[109]? = some (.bool true) := ev.got hR.1 4 109 _ rfl rfl dg
                          rw [if_pos (Reg.wanted_of rfl (Reg.yielded_of (t := 109) rfl xg))]
                          have x15 : a.tmps[15]? = some (.pointer (some ⟨gS, 0, none⟩)) := (ev.out 15 (by kernel_rfl)).trans rfl
                          have ks := HKS.out.below HB HKS.out.lt
                          have q0 := ks.cell 0
                          have q1 := ks.cell 1
                          have q2 := ks.cell 2
                          have q3 := ks.cell 3
                          clear ks
                          clear hde ev hd HB
                          go_simp
                          exact hK _ _ ⟨hR.1.step (.inr rfl), hR.2⟩
                        refine Reg.Steps.cons (k' := 11) rfl ?_ ?_
                        · intro D vals a W hR hd hde ev K' hK
                          have HB := hR.2
                          have dg := Reg.dep hde 4 rfl
                          have xg : a.tmps[109]? = some (.bool true) := ev.got hR.1 4 109 _ rfl rfl dg
                          rw [if_pos (Reg.wanted_of rfl (Reg.yielded_of (t := 109) rfl xg))]
                          have x16 : a.tmps[16]? = some (.int .u64 (x : Int)) := (ev.out 16 (by kernel_rfl)).trans rfl
                          clear hde ev hd HB
                          go_simp
                          exact hK _ _ ⟨hR.1.step (.inr rfl), hR.2⟩
                        refine Reg.Steps.cons (k' := 12) rfl ?_ ?_
                        · intro D vals a W hR hd hde ev K' hK
                          have HB := hR.2
                          have dg := Reg.dep hde 4 rfl
                          have xg : a.tmps[109]? = some (.bool true) := ev.got hR.1 4 109 _ rfl rfl dg
                          rw [if_pos (Reg.wanted_of rfl (Reg.yielded_of (t := 109) rfl xg))]
                          have d8 := Reg.dep hde 8 rfl
                          have x113 : a.tmps[113]? = some (.pointer (some ⟨P, 0, none⟩)) := ev.got hR.1 8 113 _ rfl rfl d8
                          have d9 := Reg.dep hde 9 rfl
                          have x114 : a.tmps[114]? = some (.agg #[.int .u64 (ow : Int), .int .u64 (xm : Int), .int .u64 (xx : Int), .slice RA rn rc]) := ev.got hR.1 9 114 _ rfl rfl d9
                          have d10 := Reg.dep hde 10 rfl
                          have x115 : a.tmps[115]? = some (.int .u64 (x : Int)) := ev.got hR.1 10 115 _ rfl rfl d10
                          have CC := Lib.hid (HSE2.out W (HB45.out.trans (HB.mono HB45.out.size)))
                          have HR1 := Lib.hid hR
                          clear hde ev hd HB hR
                          go_simp
                          refine CC.out.mono ?_
                          rintro e W1 ⟨rfl, hb⟩
                          exact hK _ _ ⟨HR1.out.1.step (.inr rfl), HR1.out.2.trans (hb.mono HR1.out.2.size)⟩
                        refine Reg.Steps.cons (k' := 13) rfl ?_ ?_
                        · intro D vals a W hR hd hde ev K' hK
                          have HB := hR.2
                          have dg := Reg.dep hde 4 rfl
                          have xg : a.tmps[109]? = some (.bool true) := ev.got hR.1 4 109 _ rfl rfl dg
                          rw [if_pos (Reg.wanted_of rfl (Reg.yielded_of (t := 109) rfl xg))]
                          have x7 : a.tmps[7]? = some (.slice (some ⟨gW, 0, none⟩) p c2) := (ev.out 7 (by kernel_rfl)).trans rfl
                          clear hde ev hd HB
                          go_simp
                          exact hK _ _ ⟨hR.1.step (.inr rfl), hR.2⟩
                        refine Reg.Steps.cons (k' := 14) rfl ?_ ?_
                        · intro D vals a W hR hd hde ev K' hK
                          have HB := hR.2
                          have dg := Reg.dep hde 4 rfl
                          have xg : a.tmps[109]? = some (.bool true) := ev.got hR.1 4 109 _ rfl rfl dg
                          rw [if_pos (Reg.wanted_of rfl (Reg.yielded_of (t := 109) rfl xg))]
                          have x14 : a.tmps[14]? = some (.int .i64 (t : Int)) := (ev.out 14 (by kernel_rfl)).trans rfl
                          clear hde ev hd HB
                          go_simp
                          exact hK _ _ ⟨hR.1.step (.inr rfl), hR.2⟩
                        refine Reg.Steps.cons (k' := 15) rfl ?_ ?_
                        · intro D vals a W hR hd hde ev K' hK
                          have HB := hR.2
                          have dg := Reg.dep hde 4 rfl
                          have xg : a.tmps[109]? = some (.bool true) := ev.got hR.1 4 109 _ rfl rfl dg
                          rw [if_pos (Reg.wanted_of rfl (Reg.yielded_of (t := 109) rfl xg))]
                          have d12 := Reg.dep hde 12 rfl
                          have x117 : a.tmps[117]? = some (.slice (some ⟨gW, 0, none⟩) p c2) := ev.got hR.1 12 117 _ rfl rfl d12
                          have d13 := Reg.dep hde 13 rfl
                          have x118 : a.tmps[118]? = some (.int .i64 (t : Int)) := ev.got hR.1 13 118 _ rfl rfl d13
                          clear hde ev hd HB
                          go_simp
                          exact hK _ _ ⟨hR.1.step (.inr rfl), hR.2⟩
                        refine Reg.Steps.cons (k' := 16) rfl ?_ ?_
                        · intro D vals a W hR hd hde ev K' hK
                          have HB := hR.2
                          have dg := Reg.dep hde 4 rfl
                          have xg : a.tmps[109]? = some (.bool true) := ev.got hR.1 4 109 _ rfl rfl dg
                          rw [if_pos (Reg.wanted_of rfl (Reg.yielded_of (t := 109) rfl xg))]
                          have d14 := Reg.dep hde 14 rfl
                          have x119 : a.tmps[119]? = some (.pointer (some ⟨gW, t, none⟩)) := ev.got hR.1 14 119 _ rfl rfl d14
                          have q := HWT.out W HB
                          clear hde ev hd HB
                          go_simp
                          exact hK _ _ ⟨hR.1.step (.inr rfl), hR.2⟩
                        refine Reg.Steps.cons (k' := 17) rfl ?_ ?_
                        · intro D vals a W hR hd hde ev K' hK
                          have HB := hR.2
                          have dg := Reg.dep hde 4 rfl
                          have xg : a.tmps[109]? = some (.bool true) := ev.got hR.1 4 109 _ rfl rfl dg
                          rw [if_pos (Reg.wanted_of rfl (Reg.yielded_of (t := 109) rfl xg))]
                          have x16 : a.tmps[16]? = some (.int .u64 (x : Int)) := (ev.out 16 (by kernel_rfl)).trans rfl
                          clear hde ev hd HB
                          go_simp
                          exact hK _ _ ⟨hR.1.step (.inr rfl), hR.2⟩
                        refine Reg.Steps.cons (k' := 18) rfl ?_ ?_
                        · intro D vals a W hR hd hde ev K' hK
                          have HB := hR.2
                          have dg := Reg.dep hde 4 rfl
                          have xg : a.tmps[109]? = some (.bool true) := ev.got hR.1 4 109 _ rfl rfl dg
                          rw [if_pos (Reg.wanted_of rfl (Reg.yielded_of (t := 109) rfl xg))]
                          have d15 := Reg.dep hde 15 rfl
                          have x120 : a.tmps[120]? = some (.slice (some ⟨gj, 0, none⟩) 60 dj) := ev.got hR.1 15 120 _ rfl rfl d15
                          have d16 := Reg.dep hde 16 rfl
                          have x121 : a.tmps[121]? = some (.int .u64 (x : Int)) := ev.got hR.1 16 121 _ rfl rfl d16
                          clear hde ev hd HB
                          go_simp
                          exact hK _ _ ⟨hR.1.step (.inr rfl), hR.2⟩
                        refine Reg.Steps.cons (k' := 19) rfl ?_ ?_
                        · intro D vals a W hR hd hde ev K' hK
                          have HB := hR.2
                          have dg := Reg.dep hde 4 rfl
                          have xg : a.tmps[109]? = some (.bool true) := ev.got hR.1 4 109 _ rfl rfl dg
                          rw [if_pos (Reg.wanted_of rfl (Reg.yielded_of (t := 109) rfl xg))]
                          have d17 := Reg.dep hde 17 rfl
                          have x122 : a.tmps[122]? = some (.pointer (some ⟨gj, x, none⟩)) := ev.got hR.1 17 122 _ rfl rfl d17
                          have q := HWB.out W HB
                          clear hde ev hd HB
                          go_simp
                          exact hK _ _ ⟨hR.1.step (.inr rfl), hR.2⟩
                        refine Reg.Steps.cons (k' := 20) rfl ?_ ?_
                        · intro D vals a W hR hd hde ev K' hK
                          have HB := hR.2
                          have dg := Reg.dep hde 4 rfl
                          have xg : a.tmps[109]? = some (.bool true) := ev.got hR.1 4 109 _ rfl rfl dg
                          rw [if_pos (Reg.wanted_of rfl (Reg.yielded_of (t := 109) rfl xg))]
                          have d11 := Reg.dep hde 11 rfl
                          have x116 : a.tmps[116]? = some (.bool bb) := ev.got hR.1 11 116 _ rfl rfl d11
                          have d18 := Reg.dep hde 18 rfl
                          have x123 : a.tmps[123]? = some (.bool bb) := ev.got hR.1 18 123 _ rfl rfl d18
                          clear hde ev hd HB
                          go_simp
                          exact hK _ _ ⟨hR.1.step (.inr rfl), hR.2⟩
                        refine Reg.Steps.cons (k' := 21) rfl ?_ ?_
                        · intro D vals a W hR hd hde ev K' hK
                          have HB := hR.2
                          have d4 := Reg.dep hde 4 rfl
                          have x109 : a.tmps[109]? = some (.bool true) := ev.got hR.1 4 109 _ rfl rfl d4
                          have d19 := Reg.dep hde 19 rfl
                          have x124 : a.tmps[124]? = some (.bool false) := ev.got hR.1 19 124 _ rfl rfl d19
                          clear hde ev hd HB
                          go_simp
                          exact hK _ _ ⟨hR.1.step (.inr rfl), hR.2⟩
                        exact Reg.Steps.nil
                      · intro D vals W2 hD hR
                        have hB2 := hR.2
                        have ev20 := hR.1 20 _ rfl (hD 20 (by decide))
                        clear hR hD
                        simp only [Reg.fin, Act.put, List.setIfInBounds_toArray, List.set_cons_zero, List.set_cons_succ, ev20]
                        clear ev20
                        generalize vals 0 = z0; generalize vals 1 = z1; generalize vals 2 = z2; generalize vals 3 = z3; generalize vals 4 = z4; generalize vals 5 = z5; generalize vals 6 = z6; generalize vals 7 = z7; generalize vals 8 = z8; generalize vals 9 = z9; generalize vals 10 = z10; generalize vals 11 = z11; generalize vals 12 = z12; generalize vals 13 = z13; generalize vals 14 = z14; generalize vals 15 = z15; generalize vals 16 = z16; generalize vals 17 = z17; generalize vals 18 = z18; generalize vals 19 = z19
                        clear vals
                        have HBF := Lib.hid (HB6.out.trans (hB2.mono HB6.out.size))
                        clear hB2
                        go_wp2_with fail
                        go_roundw
                        case rel => exact ⟨x + 1, by omega, by go_num, HBF.out⟩
                        case measure => simp [intOf]; omega
                  · obtain rfl : x = 60 := by omega
                    have HBF := Lib.hid (HB4.out.trans (HB6.out.mono HB4.out.size))
                    go_wp2_with fail
                    go_roundw
                    case rel => exact ⟨t + 1, by omega, by go_num, HBF.out⟩
                    case measure => simp [intOf]; omega
              · obtain rfl : p = t := by omega
                have HFIN := Lib.hid (bel_trans HB1.out (HAE.out.below HBO.out).1.bel)
                go_wp2_with fail
                go_ret
                exact ⟨rfl, HFIN.out⟩
          · have h30' : ¬ (30 : Int) ≤ q := by omega
            obtain ⟨r4, hr4⟩ : ∃ r4 : Nat, d % 4 = r4 := ⟨_, rfl⟩
            have hr4' : (d : Int) % 4 = r4 := by omega
            have hd0 : (d : Int) < 256 := by omega
            have hx0 : (y : Int) < 18446744073709551616 := by omega
            obtain ⟨y60, hy⟩ : ∃ y60 : Nat, y % 60 = y60 := ⟨_, rfl⟩
            have hy' : (y : Int) % 60 = y60 := by omega
            have hy60 : y60 < 60 := by omega
            have hty : Int.tmod (y : Int) 60 = (y60 : Int) := by rw [Int.tmod_eq_emod_of_nonneg (by omega)]; exact hy'
            have HAV : Hid (AP w1 (wr.alloc (.cells #[.int .u8 (d : Int), .int .u64 (y : Int)] 62)) K2 P Q 1 S' S) := Lib.hid (HAP.out.below (bel_alloc wr _)).1
            have HKV : Hid (KeepK K2 W3 (wr.alloc (.cells #[.int .u8 (d : Int), .int .u64 (y : Int)] 62))) := Lib.hid (fun g hg => ((HAP.out.below (bel_alloc wr _)).2 g hg).trans (HKP.out g hg))
            have HKO : Hid (Blk (wr.alloc (.cells #[.int .u8 (d : Int), .int .u64 (y : Int)] 62)) wr.heap.size 62 #[.int .u8 (d : Int), .int .u64 (y : Int)]) := Lib.hid (Blk.new _ _ _)
            have HPBV := Lib.hid (HKV.out.blk HPS3.out.pb (HKK.out _ HPS3.out.kPB))
            clear hr4 hy
            rcases (show r4 = 0 ∨ r4 = 1 ∨ ((r4 : Int) == 0) = false ∧ ((r4 : Int) == 1) = false by
              rcases (show r4 = 0 ∨ r4 = 1 ∨ 1 < r4 by omega) with h | h | h
              · exact .inl h
              · exact .inr (.inl h)
              · exact .inr (.inr ⟨by rw [beq_eq_false_iff_ne]; omega, by rw [beq_eq_false_iff_ne]; omega⟩)) with rfl | rfl | ⟨hr0, hr1⟩
            · have q0 := HPBV.out.cell 0
              simp only [List.getElem?_toArray, List.getElem?_cons_zero] at q0
              by_cases hfu : 1 + S'.length ≤ 1099511627776
              · have HFU := Lib.hid hfu
                clear hfu
                go_wp2_with fail
                refine (ap_begin HAV.out HFU.out).mono ?_
                rintro e w6 ⟨rfl, ha6, hk6⟩
                have HA7 := Lib.hid ha6
                have HK7 : Hid (KeepK K2 W3 w6) := Lib.hid (fun g hg => (hk6 g hg).trans (HKV.out g hg))
                clear ha6 hk6
                go_wp2_with fail
                go_roundw
                case rel => exact ⟨q + 1, by omega, by go_num, S' ++ [1], HA7.out, st_ok_snoc HOKS.out, HLAT.out.trans (later_snoc S'), HK7.out⟩
                case measure => simp [intOf]; omega
              · have HFE : Hid (1 + S'.length = 1099511627777) := Lib.hid (by have := HAV.out.top; omega)
                clear hfu
                go_wp2_with fail
                refine (ap_full HAV.out HFE.out).mono ?_
                rintro e w6 ⟨rfl, rfl⟩
                go_wp2_with fail
                go_roundw
                case rel => exact ⟨q + 1, by omega, by go_num, S', HAV.out, HOKS.out, HLAT.out, HKV.out⟩
                case measure => simp [intOf]; omega
            · go_wp2_with fail
              generalize (wr.alloc (.cells #[.int .u8 (d : Int), .int .u64 (y : Int)] 62)) = V at *
              generalize wr.heap.size = gO at *
              clear x0 x1 hd0
              refine Reg.wp_region_inv_lit (by kernel_rfl) (by kernel_rfl) (fun D vals W => Reg.Fx (fun k9 => ([some (.pointer (some ⟨PB, 0, none⟩)), some (.pointer (some ⟨PB, 0, none⟩)), some (.pointer (some ⟨PB, 0, none⟩)), some (.pointer (some ⟨P, 0, none⟩)), some (.pointer (some ⟨gO, 1, none⟩)), some (.int .u64 (y : Int)), some (.int .u64 (y60 : Int)), none] : List (Option Value)).getD k9 none) D vals ∧ (D 7 = false → W = V.drew) ∧ (D 7 = true → AP w1 W K2 P Q 1 (endS 1 S' y60 3) S ∧ KeepK K2 V.drew W) ∧ (D 7 = true → D 3 = true) ∧ (D 7 = true → D 6 = true) ∧ (D 6 = true → D 5 = true)) ⟨Reg.Fx.init _ _, fun _ => rfl, nofun, nofun, nofun, nofun⟩ (fun Q' => ?_) ?_
              · refine Reg.Steps.cons (k' := 1) rfl ?_ ?_
                · intro D vals a W hR hd hde ev K' hK
                  have x5 : a.tmps[5]? = some (.pointer (some ⟨PB, 0, none⟩)) := (ev.out 5 (by kernel_rfl)).trans rfl
                  clear hde ev hd
                  go_simp
                  exact hK _ _ ⟨hR.1.step (.inr rfl), hR.2⟩
                refine Reg.Steps.cons (k' := 2) rfl ?_ ?_
                · intro D vals a W hR hd hde ev K' hK
                  have d0 := Reg.dep hde 0 rfl
                  have x83 : a.tmps[83]? = some (.pointer (some ⟨PB, 0, none⟩)) := ev.got hR.1 0 83 _ rfl rfl d0
                  clear hde ev hd
                  go_simp
                  exact hK _ _ ⟨hR.1.step (.inr rfl), hR.2⟩
                refine Reg.Steps.cons (k' := 3) rfl ?_ ?_
                · intro D vals a W hR hd hde ev K' hK
                  have d1 := Reg.dep hde 1 rfl
                  have x84 : a.tmps[84]? = some (.pointer (some ⟨PB, 0, none⟩)) := ev.got hR.1 1 84 _ rfl rfl d1
                  clear hde ev hd
                  go_simp
                  exact hK _ _ ⟨hR.1.step (.inr rfl), hR.2⟩
                refine Reg.Steps.cons (k' := 4) rfl ?_ ?_
                · intro D vals a W hR hd hde ev K' hK
                  have d2 := Reg.dep hde 2 rfl
                  have x85 : a.tmps[85]? = some (.pointer (some ⟨PB, 0, none⟩)) := ev.got hR.1 2 85 _ rfl rfl d2
                  have h7 : D 7 = false := by cases h : D 7 with
                    | false => rfl
                    | true => exact absurd (hR.2.2.2.1 h) (by rw [hd]; simp)
                  have hW := hR.2.1 h7
                  have q0 : W.cell? ⟨PB, 0, none⟩ = some (.pointer (some ⟨P, 0, none⟩)) := by rw [hW]; exact HPBV.out.cell 0
                  clear hW h7
                  clear hde ev hd
                  go_simp
                  exact hK _ _ ⟨hR.1.step (.inr rfl), ⟨hR.2.1, hR.2.2.1, fun _ => rfl, hR.2.2.2.2.1, hR.2.2.2.2.2⟩⟩
                refine Reg.Steps.cons (k' := 5) rfl ?_ ?_
                · intro D vals a W hR hd hde ev K' hK
                  have x13 : a.tmps[13]? = some (.pointer (some ⟨gO, 0, none⟩)) := (ev.out 13 (by kernel_rfl)).trans rfl
                  clear hde ev hd
                  go_simp
                  exact hK _ _ ⟨hR.1.step (.inr rfl), hR.2⟩
                refine Reg.Steps.cons (k' := 6) rfl ?_ ?_
                · intro D vals a W hR hd hde ev K' hK
                  have d4 := Reg.dep hde 4 rfl
                  have x87 : a.tmps[87]? = some (.pointer (some ⟨gO, 1, none⟩)) := ev.got hR.1 4 87 _ rfl rfl d4
                  have h7 : D 7 = false := by cases h : D 7 with
                    | false => rfl
                    | true => exact absurd (hR.2.2.2.2.2 (hR.2.2.2.2.1 h)) (by rw [hd]; simp)
                  have hW := hR.2.1 h7
                  have q0 : W.cell? ⟨gO, 1, none⟩ = some (.int .u64 (y : Int)) := by rw [hW]; exact HKO.out.cell 1
                  clear hW h7
                  clear hde ev hd
                  go_simp
                  exact hK _ _ ⟨hR.1.step (.inr rfl), ⟨hR.2.1, hR.2.2.1, hR.2.2.2.1, hR.2.2.2.2.1, fun _ => rfl⟩⟩
                refine Reg.Steps.cons (k' := 7) rfl ?_ ?_
                · intro D vals a W hR hd hde ev K' hK
                  have d5 := Reg.dep hde 5 rfl
                  have x88 : a.tmps[88]? = some (.int .u64 (y : Int)) := ev.got hR.1 5 88 _ rfl rfl d5
                  clear hde ev hd
                  go_simp
                  exact hK _ _ ⟨hR.1.step (.inr rfl), ⟨hR.2.1, hR.2.2.1, hR.2.2.2.1, fun _ => rfl, fun _ => d5⟩⟩
                refine Reg.Steps.cons (k' := 8) rfl ?_ ?_
                · intro D vals a W hR hd hde ev K' hK
                  have d3 := Reg.dep hde 3 rfl
                  have x86 : a.tmps[86]? = some (.pointer (some ⟨P, 0, none⟩)) := ev.got hR.1 3 86 _ rfl rfl d3
                  have d6 := Reg.dep hde 6 rfl
                  have x89 : a.tmps[89]? = some (.int .u64 (y60 : Int)) := ev.got hR.1 6 89 _ rfl rfl d6
                  have hW := hR.2.1 hd
                  have CC := Lib.hid (ap_abort (show AP w1 V.drew K2 P Q 1 S' S from HAV.out.drewN 1) (x := y60) (by omega))
                  rw [← hW] at CC
                  have HW := Lib.hid hW
                  have HR1 := Lib.hid hR
                  clear hde ev hd hR hW
                  go_simp
                  refine CC.out.mono ?_
                  rintro e W1 ⟨rfl, ha, hk⟩
                  exact hK _ _ ⟨HR1.out.1.step (.inl rfl), nofun, fun _ => ⟨ha, by have h := hk; rw [HW.out] at h; exact h⟩, fun _ => d3, fun _ => d6, HR1.out.2.2.2.2.2⟩
                exact Reg.Steps.nil
              · intro D vals W2 hD hR
                obtain ⟨ha, hk⟩ := hR.2.2.1 (hD 7 (by decide))
                have HA7 := Lib.hid ha
                have HK7 : Hid (KeepK K2 W3 W2) := Lib.hid (fun g hg => (hk g hg).trans (HKV.out g hg))
                clear hR hD ha hk
                simp only [Reg.fin, Act.put, List.setIfInBounds_toArray, List.set_cons_zero, List.set_cons_succ]
                generalize vals 0 = z0; generalize vals 1 = z1; generalize vals 2 = z2; generalize vals 3 = z3; generalize vals 4 = z4; generalize vals 5 = z5; generalize vals 6 = z6; generalize vals 7 = z7
                clear vals
                go_wp2_with fail
                go_roundw
                case rel => exact ⟨q + 1, by omega, by go_num, endS 1 S' y60 3, HA7.out, st_ok_end HOKS.out 1 y60 (by omega), HLAT.out.trans (later_end S' y60 3), HK7.out⟩
                case measure => simp [intOf]; omega
            · go_wp2_with fail
              generalize (wr.alloc (.cells #[.int .u8 (d : Int), .int .u64 (y : Int)] 62)) = V at *
              generalize wr.heap.size = gO at *
              clear x0 x1 hd0
              refine Reg.wp_region_inv_lit (by kernel_rfl) (by kernel_rfl) (fun D vals W => Reg.Fx (fun k9 => ([some (.pointer (some ⟨PB, 0, none⟩)), some (.pointer (some ⟨PB, 0, none⟩)), some (.pointer (some ⟨PB, 0, none⟩)), some (.pointer (some ⟨P, 0, none⟩)), some (.pointer (some ⟨gO, 1, none⟩)), some (.int .u64 (y : Int)), some (.int .u64 (y60 : Int)), none] : List (Option Value)).getD k9 none) D vals ∧ (D 7 = false → W = V.drew) ∧ (D 7 = true → AP w1 W K2 P Q 1 (endS 1 S' y60 2) S ∧ KeepK K2 V.drew W) ∧ (D 7 = true → D 3 = true) ∧ (D 7 = true → D 6 = true) ∧ (D 6 = true → D 5 = true)) ⟨Reg.Fx.init _ _, fun _ => rfl, nofun, nofun, nofun, nofun⟩ (fun Q' => ?_) ?_
              · refine Reg.Steps.cons (k' := 1) rfl ?_ ?_
                · intro D vals a W hR hd hde ev K' hK
                  have x5 : a.tmps[5]? = some (.pointer (some ⟨PB, 0, none⟩)) := (ev.out 5 (by kernel_rfl)).trans rfl
                  clear hde ev hd
                  go_simp
                  exact hK _ _ ⟨hR.1.step (.inr rfl), hR.2⟩
                refine Reg.Steps.cons (k' := 2) rfl ?_ ?_
                · intro D vals a W hR hd hde ev K' hK
                  have d0 := Reg.dep hde 0 rfl
                  have x66 : a.tmps[66]? = some (.pointer (some ⟨PB, 0, none⟩)) := ev.got hR.1 0 66 _ rfl rfl d0
                  clear hde ev hd
                  go_simp
                  exact hK _ _ ⟨hR.1.step (.inr rfl), hR.2⟩
                refine Reg.Steps.cons (k' := 3) rfl ?_ ?_
                · intro D vals a W hR hd hde ev K' hK
                  have d1 := Reg.dep hde 1 rfl
                  have x67 : a.tmps[67]? = some (.pointer (some ⟨PB, 0, none⟩)) := ev.got hR.1 1 67 _ rfl rfl d1
                  clear hde ev hd
                  go_simp
                  exact hK _ _ ⟨hR.1.step (.inr rfl), hR.2⟩
                refine Reg.Steps.cons (k' := 4) rfl ?_ ?_
                · intro D vals a W hR hd hde ev K' hK
                  have d2 := Reg.dep hde 2 rfl
                  have x68 : a.tmps[68]? = some (.pointer (some ⟨PB, 0, none⟩)) := ev.got hR.1 2 68 _ rfl rfl d2
                  have h7 : D 7 = false := by cases h : D 7 with
                    | false => rfl
                    | true => exact absurd (hR.2.2.2.1 h) (by rw [hd]; simp)
                  have hW := hR.2.1 h7
                  have q0 : W.cell? ⟨PB, 0, none⟩ = some (.pointer (some ⟨P, 0, none⟩)) := by rw [hW]; exact HPBV.out.cell 0
                  clear hW h7
                  clear hde ev hd
                  go_simp
                  exact hK _ _ ⟨hR.1.step (.inr rfl), ⟨hR.2.1, hR.2.2.1, fun _ => rfl, hR.2.2.2.2.1, hR.2.2.2.2.2⟩⟩
                refine Reg.Steps.cons (k' := 5) rfl ?_ ?_
                · intro D vals a W hR hd hde ev K' hK
                  have x13 : a.tmps[13]? = some (.pointer (some ⟨gO, 0, none⟩)) := (ev.out 13 (by kernel_rfl)).trans rfl
                  clear hde ev hd
                  go_simp
                  exact hK _ _ ⟨hR.1.step (.inr rfl), hR.2⟩
                refine Reg.Steps.cons (k' := 6) rfl ?_ ?_
                · intro D vals a W hR hd hde ev K' hK
                  have d4 := Reg.dep hde 4 rfl
                  have x70 : a.tmps[70]? = some (.pointer (some ⟨gO, 1, none⟩)) := ev.got hR.1 4 70 _ rfl rfl d4
                  have h7 : D 7 = false := by cases h : D 7 with
                    | false => rfl
                    | true => exact absurd (hR.2.2.2.2.2 (hR.2.2.2.2.1 h)) (by rw [hd]; simp)
                  have hW := hR.2.1 h7
                  have q0 : W.cell? ⟨gO, 1, none⟩ = some (.int .u64 (y : Int)) := by rw [hW]; exact HKO.out.cell 1
                  clear hW h7
                  clear hde ev hd
                  go_simp
                  exact hK _ _ ⟨hR.1.step (.inr rfl), ⟨hR.2.1, hR.2.2.1, hR.2.2.2.1, hR.2.2.2.2.1, fun _ => rfl⟩⟩
                refine Reg.Steps.cons (k' := 7) rfl ?_ ?_
                · intro D vals a W hR hd hde ev K' hK
                  have d5 := Reg.dep hde 5 rfl
                  have x71 : a.tmps[71]? = some (.int .u64 (y : Int)) := ev.got hR.1 5 71 _ rfl rfl d5
                  clear hde ev hd
                  go_simp
                  exact hK _ _ ⟨hR.1.step (.inr rfl), ⟨hR.2.1, hR.2.2.1, hR.2.2.2.1, fun _ => rfl, fun _ => d5⟩⟩
                refine Reg.Steps.cons (k' := 8) rfl ?_ ?_
                · intro D vals a W hR hd hde ev K' hK
                  have d3 := Reg.dep hde 3 rfl
                  have x69 : a.tmps[69]? = some (.pointer (some ⟨P, 0, none⟩)) := ev.got hR.1 3 69 _ rfl rfl d3
                  have d6 := Reg.dep hde 6 rfl
                  have x72 : a.tmps[72]? = some (.int .u64 (y60 : Int)) := ev.got hR.1 6 72 _ rfl rfl d6
                  have hW := hR.2.1 hd
                  have CC := Lib.hid (ap_commit (show AP w1 V.drew K2 P Q 1 S' S from HAV.out.drewN 1) y60)
                  rw [← hW] at CC
                  have HW := Lib.hid hW
                  have HR1 := Lib.hid hR
                  clear hde ev hd hR hW
                  go_simp
                  refine CC.out.mono ?_
                  rintro e W1 ⟨rfl, ha, hk⟩
                  exact hK _ _ ⟨HR1.out.1.step (.inl rfl), nofun, fun _ => ⟨ha, by have h := hk; rw [HW.out] at h; exact h⟩, fun _ => d3, fun _ => d6, HR1.out.2.2.2.2.2⟩
                exact Reg.Steps.nil
              · intro D vals W2 hD hR
                obtain ⟨ha, hk⟩ := hR.2.2.1 (hD 7 (by decide))
                have HA7 := Lib.hid ha
                have HK7 : Hid (KeepK K2 W3 W2) := Lib.hid (fun g hg => (hk g hg).trans (HKV.out g hg))
                clear hR hD ha hk
                simp only [Reg.fin, Act.put, List.setIfInBounds_toArray, List.set_cons_zero, List.set_cons_succ]
                generalize vals 0 = z0; generalize vals 1 = z1; generalize vals 2 = z2; generalize vals 3 = z3; generalize vals 4 = z4; generalize vals 5 = z5; generalize vals 6 = z6; generalize vals 7 = z7
                clear vals
                go_wp2_with fail
                go_roundw
                case rel => exact ⟨q + 1, by omega, by go_num, endS 1 S' y60 2, HA7.out, st_ok_end HOKS.out 1 y60 (by omega), HLAT.out.trans (later_end S' y60 2), HK7.out⟩
                case measure => simp [intOf]; omega
        · obtain rfl : q = bn := by omega
          have HA7 := Lib.hid (show AP w1 wr K2 P Q 1 S' S ∧ True from ⟨HAP.out, trivial⟩)
          have HK7 := HKP
          have hz : (0 : Nat) = 0 := rfl
          have HAE : Hid (AP w1 wr K2 P Q 1 S' S) := Lib.hid HA7.out.1
          have HPB4 := Lib.hid (HK7.out.blk HPS3.out.pb (HKK.out _ HPS3.out.kPB))
          have q2 := HPB4.out.cell 2
          rw [HP.out] at q2
          simp only [List.getElem?_toArray, List.getElem?_cons_zero, List.getElem?_cons_succ] at q2
          go_wp2_with fail
          clear q2
          generalize hW4 : wr = W4 at *
          clear hW4
          have HCA4 : Hid (Sl W4 W4.heap.size 4 A1 p c1 (cas sl)) := Lib.hid (by
            have h := own_keep HPS3.out.oa (w' := W4) fun g hg => HK7.out g (HKK.out g (HPS3.out.kA g hg))
            rw [HP.out] at h
            obtain ⟨A', c', e, hs⟩ := Sl.of_own h
            injection e with e1 _ e3
            subst e1 e3
            exact hs)
          go_loopw [97] (fun i wo => ∃ t : Nat, t ≤ p ∧ i = .int .i64 t ∧ Below W4.heap.size W4 wo) (fun i _ => p - (intOf i).toNat)
          case atStart => exact ⟨0, by omega, rfl, Below.refl _ _⟩
          case round =>
            obtain ⟨t, ht, rfl, hbo⟩ := hrel
            have HBO := Lib.hid hbo
            clear hbo
            by_cases htp : t < p
            · have htp' : (t : Int) < p := by omega
              obtain ⟨sp, hsp⟩ : ∃ sp, sl[t]? = some sp := ⟨_, List.getElem?_eq_getElem (by rw [HP.out]; exact htp)⟩
              obtain ⟨ad3, rfl, y0, y1, y2, y3⟩ := cas_cells HCA4.out HBO.out hsp HP.out
              have HSPM := Lib.hid (List.mem_of_getElem? hsp)
              have hbq := bqOf_at (S := S) hsp
              clear hsp
              obtain ⟨ow, xm, xx, run, RA, rc, RB, rd⟩ := sp
              obtain ⟨rn, hrn⟩ : ∃ rn, run.length = rn := ⟨_, rfl⟩
              have HSAME : Hid (∀ x, x ≠ ow → seesB 1 S' ow xx run x = bqOf S sl t x) := Lib.hid (fun x hx => by
                rw [hbq]
                exact sees_stays (s := ⟨ow, xm, xx, run, RA, rc, RB, rd⟩) (HPS3.out.sp _ HSPM.out).2 HLAT.out hx)
              have HSE1 : Hid (∀ W, Below W4.heap.size W4 W → ∀ (x : Nat), x < 18446744073709551616 → Calls Try.prog 19 #[.pointer (some ⟨P, 0, none⟩), .agg #[.int .u64 (ow : Int), .int .u64 (xm : Int), .int .u64 (xx : Int), .slice RA rn rc], .int .u64 (x : Int)] W fun e w' => e = .returned (.bool (seesB 1 S' ow xx run x)) ∧ Below W.heap.size W w') := Lib.hid (fun W h x hx => by
                obtain ⟨F, hal⟩ := (HAE.out.below h).1.al
                have hm := (HPS3.out.sp _ HSPM.out).1
                have hsl : SlU W4 RA rc run := hm.a.keep' fun ad h0 e => ⟨HK7.out _ (HKK.out _ (hm.ka ad h0 e)), by
                  obtain ⟨F, G, _, _, _, _, _, h6, _⟩ := HAE.out
                  exact (h6 _ (HKK.out _ (hm.ka ad h0 e))).2.2⟩
                have := sees_any hal HOKS.out (own := ow) (xmin := xm) (xmax := xx) (Sl.on hsl h) hx
                rw [← hrn]
                exact this)
              obtain ⟨gW, hgW⟩ : ∃ gW, A2 = some ⟨gW, 0, none⟩ := by
                obtain ⟨g, cap, e, _⟩ := World.ownsRow.form HWS.out.own (by omega)
                injection e with e1
                exact ⟨g, e1⟩
              subst hgW
              obtain ⟨Bj, dj, hwj, hoj⟩ := HWS.out.el t htp
              obtain ⟨gj, hgj⟩ : ∃ gj, Bj = some ⟨gj, 0, none⟩ := by
                obtain ⟨g, cap, e, _⟩ := World.ownsRow.form hoj (by omega)
                injection e with e1
                exact ⟨g, e1⟩
              subst hgj
              have hsj := (Sl.of_own hoj)
              have hdj : 60 ≤ dj := by obtain ⟨A', c', e, hs⟩ := hsj; injection e with e1 _ e3; rw [e3]; exact hs.le
              have hdj2 : dj ≤ 9223372036854775807 := by obtain ⟨A', c', e, hs⟩ := hsj; injection e with e1 _ e3; rw [e3]; have := hs.cap; unfold maxLen at this; omega
              have hsw := (Sl.of_own HWS.out.own)
              have hc2 : p ≤ c2 := by obtain ⟨A', c', e, hs⟩ := hsw; injection e with e1 _ e3; rw [e3]; exact hs.le
              have hc22 : c2 ≤ 9223372036854775807 := by obtain ⟨A', c', e, hs⟩ := hsw; injection e with e1 _ e3; rw [e3]; have := hs.cap; unfold maxLen at this; omega
              have HW4T : Hid (W4.cell? ⟨gW, t, none⟩ = some (.slice (some ⟨gj, 0, none⟩) 60 dj)) := Lib.hid (by
                have ho := own_keep HWS.out.own (w' := W4) fun g hg => HK7.out g (HKN.out g (World.ownsRow.lt HWS.out.own g hg).1 (World.ownsRow.lt HWS.out.own g hg).2)
                rw [World.ownsRow.cellAt ho t (by omega)]
                exact hwj)
              have HW4B : Hid (∀ x, x < 60 → W4.cell? ⟨gj, x, none⟩ = some (.bool (bqOf S sl t x))) := Lib.hid (fun x hx => by
                have ho := own_keep hoj (w' := W4) fun g hg => HK7.out g (HKN.out g (World.ownsRow.lt hoj g hg).1 (World.ownsRow.lt hoj g hg).2)
                rw [World.ownsRow.cellAt ho x (by omega)]
                exact bls_at hx)
              simp only [hrn] at y3
              clear hbq hrn HSPM hwj hoj hsj hsw
              go_wp2_with fail
              clear y0 y1 y2 y3
              have HB4 : Hid (Below W4.heap.size W4 (wr.alloc (.cells #[.int .u64 (ow : Int), .int .u64 (xm : Int), .int .u64 (xx : Int), .slice RA rn rc] 48))) := Lib.hid (HBO.out.alloc HBO.out.size _)
              have HK4 : Hid (Blk (wr.alloc (.cells #[.int .u64 (ow : Int), .int .u64 (xm : Int), .int .u64 (xx : Int), .slice RA rn rc] 48)) wr.heap.size 48 #[.int .u64 (ow : Int), .int .u64 (xm : Int), .int .u64 (xx : Int), .slice RA rn rc]) := Lib.hid (Blk.new _ _ _)
              generalize (wr.alloc (.cells #[.int .u64 (ow : Int), .int .u64 (xm : Int), .int .u64 (xx : Int), .slice RA rn rc] 48)) = W5 at *
              generalize wr.heap.size = gS at *
              clear HBO
              go_loopw [102] (fun i wi => ∃ x : Nat, x ≤ 60 ∧ i = .int .u64 x ∧ Below W5.heap.size W5 wi) (fun i _ => 60 - (intOf i).toNat)
              case atStart => exact ⟨0, by omega, rfl, Below.refl _ _⟩
              case round =>
                obtain ⟨x, hx, rfl, hbi⟩ := hrel
                have HB6 := Lib.hid hbi
                clear hbi
                by_cases hx60 : x < 60
                · have hx60' : (x : Int) < 60 := by omega
                  obtain ⟨bb, hbb⟩ : ∃ bb, bqOf S sl t x = bb := ⟨_, rfl⟩
                  go_wp2_with fail
                  have HB45 := Lib.hid (HB4.out.trans (HB6.out.mono HB4.out.size))
                  have HKS := Lib.hid (HK4.out.below HB6.out HK4.out.lt)
                  have HWT : Hid (∀ W, Below wr.heap.size wr W → W.cell? ⟨gW, t, none⟩ = some (.slice (some ⟨gj, 0, none⟩) 60 dj)) := Lib.hid (fun W h => cell_keep (HB45.out.trans (h.mono HB45.out.size)) HW4T.out)
                  have HWB : Hid (∀ W, Below wr.heap.size wr W → W.cell? ⟨gj, x, none⟩ = some (.bool bb)) := Lib.hid (fun W h => cell_keep (HB45.out.trans (h.mono HB45.out.size)) (by rw [HW4B.out x hx60, hbb]))
                  have HPBW : Hid (∀ W, Below W4.heap.size W4 W → W.cell? ⟨PB, 0, none⟩ = some (.pointer (some ⟨P, 0, none⟩))) := Lib.hid (fun W h => cell_keep h (HPB4.out.cell 0))
                  generalize hV : wr = V at *
                  clear hV
                  by_cases hne : x = ow
                  · have hne' : ((x : Int) == (ow : Int)) = true := by rw [beq_iff_eq]; omega
                    have hne3 : ((x : Int) != (ow : Int)) = false := by rw [bne, hne']; rfl
                    have hne4 : (x != ow) = false := by rw [bne, beq_iff_eq.2 hne]; rfl
                    clear hne hne'
                    refine Reg.wp_region_inv_lit (by kernel_rfl) (by kernel_rfl) (fun D vals W => Reg.Fx (fun k9 => ([some (.int .u64 (x : Int)), some (.pointer (some ⟨gS, 0, none⟩)), some (.int .u64 (ow : Int)), some (.bool false), some (.bool false), some (undef), some (undef), some (undef), some (undef), some (undef), some (undef), some (undef), some (undef), some (undef), some (undef), some (undef), some (undef), some (undef), some (undef), some (undef), some (.bool false)] : List (Option Value)).getD k9 none) D vals ∧ Below V.heap.size V W) ⟨Reg.Fx.init _ _, ⟨rfl, rfl, rfl, Nat.le_refl _, fun _ _ => rfl⟩⟩ (fun Q' => ?_) ?_
                    · refine Reg.Steps.cons (k' := 1) rfl ?_ ?_
                      · intro D vals a W hR hd hde ev K' hK
                        have HB := hR.2
                        have x16 : a.tmps[16]? = some (.int .u64 (x : Int)) := (ev.out 16 (by kernel_rfl)).trans rfl
                        clear hde ev hd HB
                        go_simp
                        exact hK _ _ ⟨hR.1.step (.inr rfl), hR.2⟩
                      refine Reg.Steps.cons (k' := 2) rfl ?_ ?_
                      · intro D vals a W hR hd hde ev K' hK
                        have HB := hR.2
                        have x15 : a.tmps[15]? = some (.pointer (some ⟨gS, 0, none⟩)) := (ev.out 15 (by kernel_rfl)).trans rfl
                        clear hde ev hd HB
                        go_simp
                        exact hK _ _ ⟨hR.1.step (.inr rfl), hR.2⟩
                      refine Reg.Steps.cons (k' := 3) rfl ?_ ?_
                      · intro D vals a W hR hd hde ev K' hK
                        have HB := hR.2
                        have d1 := Reg.dep hde 1 rfl
                        have x106 : a.tmps[106]? = some (.pointer (some ⟨gS, 0, none⟩)) := ev.got hR.1 1 106 _ rfl rfl d1
                        have q := (HKS.out.below HB HKS.out.lt).cell 0
                        clear hde ev hd HB
                        go_simp
                        exact hK _ _ ⟨hR.1.step (.inr rfl), hR.2⟩
                      refine Reg.Steps.cons (k' := 4) rfl ?_ ?_
                      · intro D vals a W hR hd hde ev K' hK
                        have HB := hR.2
                        have d0 := Reg.dep hde 0 rfl
                        have x105 : a.tmps[105]? = some (.int .u64 (x : Int)) := ev.got hR.1 0 105 _ rfl rfl d0
                        have d2 := Reg.dep hde 2 rfl
                        have x107 : a.tmps[107]? = some (.int .u64 (ow : Int)) := ev.got hR.1 2 107 _ rfl rfl d2
                        clear hde ev hd HB
                        go_simp
                        exact hK _ _ ⟨hR.1.step (.inr rfl), hR.2⟩
                      refine Reg.Steps.cons (k' := 5) rfl ?_ ?_
                      · intro D vals a W hR hd hde ev K' hK
                        have HB := hR.2
                        have d3 := Reg.dep hde 3 rfl
                        have x108 : a.tmps[108]? = some (.bool false) := ev.got hR.1 3 108 _ rfl rfl d3
                        clear hde ev hd HB
                        go_simp
                        exact hK _ _ ⟨hR.1.step (.inr rfl), hR.2⟩
                      refine Reg.Steps.cons (k' := 6) rfl ?_ ?_
                      · intro D vals a W hR hd hde ev K' hK
                        have HB := hR.2
                        have dg := Reg.dep hde 4 rfl
                        have xg : a.tmps[109]? = some (.bool false) := ev.got hR.1 4 109 _ rfl rfl dg
                        rw [if_neg (Reg.wanted_not rfl (Reg.yielded_of (t := 109) rfl xg) (by decide))]
                        exact hK _ _ ⟨hR.1.step (.inr rfl), HB⟩
                      refine Reg.Steps.cons (k' := 7) rfl ?_ ?_
                      · intro D vals a W hR hd hde ev K' hK
                        have HB := hR.2
                        have dg := Reg.dep hde 4 rfl
                        have xg : a.tmps[109]? = some (.bool false) := ev.got hR.1 4 109 _ rfl rfl dg
                        rw [if_neg (Reg.wanted_not rfl (Reg.yielded_of (t := 109) rfl xg) (by decide))]
                        exact hK _ _ ⟨hR.1.step (.inr rfl), HB⟩
                      refine Reg.Steps.cons (k' := 8) rfl ?_ ?_
                      · intro D vals a W hR hd hde ev K' hK
                        have HB := hR.2
                        have dg := Reg.dep hde 4 rfl
                        have xg : a.tmps[109]? = some (.bool false) := ev.got hR.1 4 109 _ rfl rfl dg
                        rw [if_neg (Reg.wanted_not rfl (Reg.yielded_of (t := 109) rfl xg) (by decide))]
                        exact hK _ _ ⟨hR.1.step (.inr rfl), HB⟩
                      refine Reg.Steps.cons (k' := 9) rfl ?_ ?_
                      · intro D vals a W hR hd hde ev K' hK
                        have HB := hR.2
                        have dg := Reg.dep hde 4 rfl
                        have xg : a.tmps[109]? = some (.bool false) := ev.got hR.1 4 109 _ rfl rfl dg
                        rw [if_neg (Reg.wanted_not rfl (Reg.yielded_of (t := 109) rfl xg) (by decide))]
                        exact hK _ _ ⟨hR.1.step (.inr rfl), HB⟩
                      refine Reg.Steps.cons (k' := 10) rfl ?_ ?_
                      · intro D vals a W hR hd hde ev K' hK
                        have HB := hR.2
                        have dg := Reg.dep hde 4 rfl
                        have xg : a.tmps[109]? = some (.bool false) := ev.got hR.1 4 109 _ rfl rfl dg
                        rw [if_neg (Reg.wanted_not rfl (Reg.yielded_of (t := 109) rfl xg) (by decide))]
                        exact hK _ _ ⟨hR.1.step (.inr rfl), HB⟩
                      refine Reg.Steps.cons (k' := 11) rfl ?_ ?_
                      · intro D vals a W hR hd hde ev K' hK
                        have HB := hR.2
                        have dg := Reg.dep hde 4 rfl
                        have xg : a.tmps[109]? = some (.bool false) := ev.got hR.1 4 109 _ rfl rfl dg
                        rw [if_neg (Reg.wanted_not rfl (Reg.yielded_of (t := 109) rfl xg) (by decide))]
                        exact hK _ _ ⟨hR.1.step (.inr rfl), HB⟩
                      refine Reg.Steps.cons (k' := 12) rfl ?_ ?_
                      · intro D vals a W hR hd hde ev K' hK
                        have HB := hR.2
                        have dg := Reg.dep hde 4 rfl
                        have xg : a.tmps[109]? = some (.bool false) := ev.got hR.1 4 109 _ rfl rfl dg
                        rw [if_neg (Reg.wanted_not rfl (Reg.yielded_of (t := 109) rfl xg) (by decide))]
                        exact hK _ _ ⟨hR.1.step (.inr rfl), HB⟩
                      refine Reg.Steps.cons (k' := 13) rfl ?_ ?_
                      · intro D vals a W hR hd hde ev K' hK
                        have HB := hR.2
                        have dg := Reg.dep hde 4 rfl
                        have xg : a.tmps[109]? = some (.bool false) := ev.got hR.1 4 109 _ rfl rfl dg
                        rw [if_neg (Reg.wanted_not rfl (Reg.yielded_of (t := 109) rfl xg) (by decide))]
                        exact hK _ _ ⟨hR.1.step (.inr rfl), HB⟩
                      refine Reg.Steps.cons (k' := 14) rfl ?_ ?_
                      · intro D vals a W hR hd hde ev K' hK
                        have HB := hR.2
                        have dg := Reg.dep hde 4 rfl
                        have xg : a.tmps[109]? = some (.bool false) := ev.got hR.1 4 109 _ rfl rfl dg
                        rw [if_neg (Reg.wanted_not rfl (Reg.yielded_of (t := 109) rfl xg) (by decide))]
                        exact hK _ _ ⟨hR.1.step (.inr rfl), HB⟩
                      refine Reg.Steps.cons (k' := 15) rfl ?_ ?_
                      · intro D vals a W hR hd hde ev K' hK
                        have HB := hR.2
                        have dg := Reg.dep hde 4 rfl
                        have xg : a.tmps[109]? = some (.bool false) := ev.got hR.1 4 109 _ rfl rfl dg
                        rw [if_neg (Reg.wanted_not rfl (Reg.yielded_of (t := 109) rfl xg) (by decide))]
                        exact hK _ _ ⟨hR.1.step (.inr rfl), HB⟩
                      refine Reg.Steps.cons (k' := 16) rfl ?_ ?_
                      · intro D vals a W hR hd hde ev K' hK
                        have HB := hR.2
                        have dg := Reg.dep hde 4 rfl
                        have xg : a.tmps[109]? = some (.bool false) := ev.got hR.1 4 109 _ rfl rfl dg
                        rw [if_neg (Reg.wanted_not rfl (Reg.yielded_of (t := 109) rfl xg) (by decide))]
                        exact hK _ _ ⟨hR.1.step (.inr rfl), HB⟩
                      refine Reg.Steps.cons (k' := 17) rfl ?_ ?_
                      · intro D vals a W hR hd hde ev K' hK
                        have HB := hR.2
                        have dg := Reg.dep hde 4 rfl
                        have xg : a.tmps[109]? = some (.bool false) := ev.got hR.1 4 109 _ rfl rfl dg
                        rw [if_neg (Reg.wanted_not rfl (Reg.yielded_of (t := 109) rfl xg) (by decide))]
                        exact hK _ _ ⟨hR.1.step (.inr rfl), HB⟩
                      refine Reg.Steps.cons (k' := 18) rfl ?_ ?_
                      · intro D vals a W hR hd hde ev K' hK
                        have HB := hR.2
                        have dg := Reg.dep hde 4 rfl
                        have xg : a.tmps[109]? = some (.bool false) := ev.got hR.1 4 109 _ rfl rfl dg
                        rw [if_neg (Reg.wanted_not rfl (Reg.yielded_of (t := 109) rfl xg) (by decide))]
                        exact hK _ _ ⟨hR.1.step (.inr rfl), HB⟩
                      refine Reg.Steps.cons (k' := 19) rfl ?_ ?_
                      · intro D vals a W hR hd hde ev K' hK
                        have HB := hR.2
                        have dg := Reg.dep hde 4 rfl
                        have xg : a.tmps[109]? = some (.bool false) := ev.got hR.1 4 109 _ rfl rfl dg
                        rw [if_neg (Reg.wanted_not rfl (Reg.yielded_of (t := 109) rfl xg) (by decide))]
                        exact hK _ _ ⟨hR.1.step (.inr rfl), HB⟩
                      refine Reg.Steps.cons (k' := 20) rfl ?_ ?_
                      · intro D vals a W hR hd hde ev K' hK
                        have HB := hR.2
                        have dg := Reg.dep hde 4 rfl
                        have xg : a.tmps[109]? = some (.bool false) := ev.got hR.1 4 109 _ rfl rfl dg
                        rw [if_neg (Reg.wanted_not rfl (Reg.yielded_of (t := 109) rfl xg) (by decide))]
                        exact hK _ _ ⟨hR.1.step (.inr rfl), HB⟩
                      refine Reg.Steps.cons (k' := 21) rfl ?_ ?_
                      · intro D vals a W hR hd hde ev K' hK
                        have HB := hR.2
                        have d4 := Reg.dep hde 4 rfl
                        have x109 : a.tmps[109]? = some (.bool false) := ev.got hR.1 4 109 _ rfl rfl d4
                        have d19 := Reg.dep hde 19 rfl
                        have x124 : a.tmps[124]? = some (undef) := ev.got hR.1 19 124 _ rfl rfl d19
                        clear hde ev hd HB
                        go_simp
                        exact hK _ _ ⟨hR.1.step (.inr rfl), hR.2⟩
                      exact Reg.Steps.nil
                    · intro D vals W2 hD hR
                      have hB2 := hR.2
                      have ev20 := hR.1 20 _ rfl (hD 20 (by decide))
                      clear hR hD
                      simp only [Reg.fin, Act.put, List.setIfInBounds_toArray, List.set_cons_zero, List.set_cons_succ, ev20]
                      clear ev20
                      generalize vals 0 = z0; generalize vals 1 = z1; generalize vals 2 = z2; generalize vals 3 = z3; generalize vals 4 = z4; generalize vals 5 = z5; generalize vals 6 = z6; generalize vals 7 = z7; generalize vals 8 = z8; generalize vals 9 = z9; generalize vals 10 = z10; generalize vals 11 = z11; generalize vals 12 = z12; generalize vals 13 = z13; generalize vals 14 = z14; generalize vals 15 = z15; generalize vals 16 = z16; generalize vals 17 = z17; generalize vals 18 = z18; generalize vals 19 = z19
                      clear vals
                      have HBF := Lib.hid (HB6.out.trans (hB2.mono HB6.out.size))
                      clear hB2
                      go_wp2_with fail
                      go_roundw
                      case rel => exact ⟨x + 1, by omega, by go_num, HBF.out⟩
                      case measure => simp [intOf]; omega
                  · have hne' : ((x : Int) == (ow : Int)) = false := by rw [beq_eq_false_iff_ne]; omega
                    have hne3 : ((x : Int) != (ow : Int)) = true := by rw [bne, hne']; rfl
                    have hne4 : (x != ow) = true := by rw [bne, beq_eq_false_iff_ne.2 hne]; rfl
                    have HSE2 : Hid (∀ W, Below W4.heap.size W4 W → Calls Try.prog 19 #[.pointer (some ⟨P, 0, none⟩), .agg #[.int .u64 (ow : Int), .int .u64 (xm : Int), .int .u64 (xx : Int), .slice RA rn rc], .int .u64 (x : Int)] W fun e w' => e = .returned (.bool bb) ∧ Below W.heap.size W w') := Lib.hid (fun W h => by
                      have := HSE1.out W h x (by omega)
                      rw [HSAME.out x hne, hbb] at this
                      exact this)
                    clear hbb hne hne'
                    refine Reg.wp_region_inv_lit (by kernel_rfl) (by kernel_rfl) (fun D vals W => Reg.Fx (fun k9 => ([some (.int .u64 (x : Int)), some (.pointer (some ⟨gS, 0, none⟩)), some (.int .u64 (ow : Int)), some (.bool true), some (.bool true), some (.pointer (some ⟨PB, 0, none⟩)), some (.pointer (some ⟨PB, 0, none⟩)), some (.pointer (some ⟨PB, 0, none⟩)), some (.pointer (some ⟨P, 0, none⟩)), some (.agg #[.int .u64 (ow : Int), .int .u64 (xm : Int), .int .u64 (xx : Int), .slice RA rn rc]), some (.int .u64 (x : Int)), some (.bool bb), some (.slice (some ⟨gW, 0, none⟩) p c2), some (.int .i64 (t : Int)), some (.pointer (some ⟨gW, t, none⟩)), some (.slice (some ⟨gj, 0, none⟩) 60 dj), some (.int .u64 (x : Int)), some (.pointer (some ⟨gj, x, none⟩)), some (.bool bb), some (.bool false), some (.bool false)] : List (Option Value)).getD k9 none) D vals ∧ Below V.heap.size V W) ⟨Reg.Fx.init _ _, ⟨rfl, rfl, rfl, Nat.le_refl _, fun _ _ => rfl⟩⟩ (fun Q' => ?_) ?_
                    · refine Reg.Steps.cons (k' := 1) rfl ?_ ?_
                      · intro D vals a W hR hd hde ev K' hK
                        have HB := hR.2
                        have x16 : a.tmps[16]? = some (.int .u64 (x : Int)) := (ev.out 16 (by kernel_rfl)).trans rfl
                        clear hde ev hd HB
                        go_simp
                        exact hK _ _ ⟨hR.1.step (.inr rfl), hR.2⟩
                      refine Reg.Steps.cons (k' := 2) rfl ?_ ?_
                      · intro D vals a W hR hd hde ev K' hK
                        have HB := hR.2
                        have x15 : a.tmps[15]? = some (.pointer (some ⟨gS, 0, none⟩)) := (ev.out 15 (by kernel_rfl)).trans rfl
                        clear hde ev hd HB
                        go_simp
                        exact hK _ _ ⟨hR.1.step (.inr rfl), hR.2⟩
                      refine Reg.Steps.cons (k' := 3) rfl ?_ ?_
                      · intro D vals a W hR hd hde ev K' hK
                        have HB := hR.2
                        have d1 := Reg.dep hde 1 rfl
                        have x106 : a.tmps[106]? = some (.pointer (some ⟨gS, 0, none⟩)) := ev.got hR.1 1 106 _ rfl rfl d1
                        have q := (HKS.out.below HB HKS.out.lt).cell 0
                        clear hde ev hd HB
                        go_simp
                        exact hK _ _ ⟨hR.1.step (.inr rfl), hR.2⟩
                      refine Reg.Steps.cons (k' := 4) rfl ?_ ?_
                      · intro D vals a W hR hd hde ev K' hK
                        have HB := hR.2
                        have d0 := Reg.dep hde 0 rfl
                        have x105 : a.tmps[105]? = some (.int .u64 (x : Int)) := ev.got hR.1 0 105 _ rfl rfl d0
                        have d2 := Reg.dep hde 2 rfl
                        have x107 : a.tmps[107]? = some (.int .u64 (ow : Int)) := ev.got hR.1 2 107 _ rfl rfl d2
                        clear hde ev hd HB
                        go_simp
                        exact hK _ _ ⟨hR.1.step (.inr rfl), hR.2⟩
                      refine Reg.Steps.cons (k' := 5) rfl ?_ ?_
                      · intro D vals a W hR hd hde ev K' hK
                        have HB := hR.2
                        have d3 := Reg.dep hde 3 rfl
                        have x108 : a.tmps[108]? = some (.bool true) := ev.got hR.1 3 108 _ rfl rfl d3
                        clear hde ev hd HB
                        go_simp
                        exact hK _ _ ⟨hR.1.step (.inr rfl), hR.2⟩
                      refine Reg.Steps.cons (k' := 6) rfl ?_ ?_
                      · intro D vals a W hR hd hde ev K' hK
                        have HB := hR.2
                        have dg := Reg.dep hde 4 rfl
                        have xg : a.tmps[109]? = some (.bool true) := ev.got hR.1 4 109 _ rfl rfl dg
                        rw [if_pos (Reg.wanted_of rfl (Reg.yielded_of (t := 109) rfl xg))]
                        have x5 : a.tmps[5]? = some (.pointer (some ⟨PB, 0, none⟩)) := (ev.out 5 (by kernel_rfl)).trans rfl
                        clear hde ev hd HB
                        go_simp
                        exact hK _ _ ⟨hR.1.step (.inr rfl), hR.2⟩
                      refine Reg.Steps.cons (k' := 7) rfl ?_ ?_
                      · intro D vals a W hR hd hde ev K' hK
                        have HB := hR.2
                        have dg := Reg.dep hde 4 rfl
                        have xg : a.tmps[109]? = some (.bool true) := ev.got hR.1 4 109 _ rfl rfl dg
                        rw [if_pos (Reg.wanted_of rfl (Reg.yielded_of (t := 109) rfl xg))]
                        have d5 := Reg.dep hde 5 rfl
                        have x110 : a.tmps[110]? = some (.pointer (some ⟨PB, 0, none⟩)) := ev.got hR.1 5 110 _ rfl rfl d5
                        clear hde ev hd HB
                        go_simp
                        exact hK _ _ ⟨hR.1.step (.inr rfl), hR.2⟩
                      refine Reg.Steps.cons (k' := 8) rfl ?_ ?_
                      · intro D vals a W hR hd hde ev K' hK
                        have HB := hR.2
                        have dg := Reg.dep hde 4 rfl
                        have xg : a.tmps[109]? = some (.bool true) := ev.got hR.1 4 109 _ rfl rfl dg
                        rw [if_pos (Reg.wanted_of rfl (Reg.yielded_of (t := 109) rfl xg))]
                        have d6 := Reg.dep hde 6 rfl
                        have x111 : a.tmps[111]? = some (.pointer (some ⟨PB, 0, none⟩)) := ev.got hR.1 6 111 _ rfl rfl d6
                        clear hde ev hd HB
                        go_simp
                        exact hK _ _ ⟨hR.1.step (.inr rfl), hR.2⟩
                      refine Reg.Steps.cons (k' := 9) rfl ?_ ?_
                      · intro D vals a W hR hd hde ev K' hK
                        have HB := hR.2
                        have dg := Reg.dep hde 4 rfl
                        have xg : a.tmps[109]? = some (.bool true) := ev.got hR.1 4 109 _ rfl rfl dg
                        rw [if_pos (Reg.wanted_of rfl (Reg.yielded_of (t := 109) rfl xg))]
                        have d7 := Reg.dep hde 7 rfl
                        have x112 : a.tmps[112]? = some (.pointer (some ⟨PB, 0, none⟩)) := ev.got hR.1 7 112 _ rfl rfl d7
                        have q := HPBW.out W (HB45.out.trans (HB.mono HB45.out.size))
                        clear hde ev hd HB
                        go_simp
                        exact hK _ _ ⟨hR.1.step (.inr rfl), hR.2⟩
                      refine Reg.Steps.cons (k' := 10) rfl ?_ ?_
                      · intro D vals a W hR hd hde ev K' hK
                        have HB := hR.2
                        have dg := Reg.dep hde 4 rfl
                        have xg : a.tmps[109]? = some (.bool true) := ev.got hR.1 4 109 _ rfl rfl dg
                        rw [if_pos (Reg.wanted_of rfl (Reg.yielded_of (t := 109) rfl xg))]
                        have x15 : a.tmps[15]? = some (.pointer (some ⟨gS, 0, none⟩)) := (ev.out 15 (by kernel_rfl)).trans rfl
                        have ks := HKS.out.below HB HKS.out.lt
                        have q0 := ks.cell 0
                        have q1 := ks.cell 1
                        have q2 := ks.cell 2
                        have q3 := ks.cell 3
                        clear ks
                        clear hde ev hd HB
                        go_simp
                        exact hK _ _ ⟨hR.1.step (.inr rfl), hR.2⟩
                      refine Reg.Steps.cons (k' := 11) rfl ?_ ?_
                      · intro D vals a W hR hd hde ev K' hK
                        have HB := hR.2
                        have dg := Reg.dep hde 4 rfl
                        have xg : a.tmps[109]? = some (.bool true) := ev.got hR.1 4 109 _ rfl rfl dg
                        rw [if_pos (Reg.wanted_of rfl (Reg.yielded_of (t := 109) rfl xg))]
                        have x16 : a.tmps[16]? = some (.int .u64 (x : Int)) := (ev.out 16 (by kernel_rfl)).trans rfl
                        clear hde ev hd HB
                        go_simp
                        exact hK _ _ ⟨hR.1.step (.inr rfl), hR.2⟩
                      refine Reg.Steps.cons (k' := 12) rfl ?_ ?_
                      · intro D vals a W hR hd hde ev K' hK
                        have HB := hR.2
                        have dg := Reg.dep hde 4 rfl
                        have xg : a.tmps[109]? = some (.bool true) := ev.got hR.1 4 109 _ rfl rfl dg
                        rw [if_pos (Reg.wanted_of rfl (Reg.yielded_of (t := 109) rfl xg))]
                        have d8 := Reg.dep hde 8 rfl
                        have x113 : a.tmps[113]? = some (.pointer (some ⟨P, 0, none⟩)) := ev.got hR.1 8 113 _ rfl rfl d8
                        have d9 := Reg.dep hde 9 rfl
                        have x114 : a.tmps[114]? = some (.agg #[.int .u64 (ow : Int), .int .u64 (xm : Int), .int .u64 (xx : Int), .slice RA rn rc]) := ev.got hR.1 9 114 _ rfl rfl d9
                        have d10 := Reg.dep hde 10 rfl
                        have x115 : a.tmps[115]? = some (.int .u64 (x : Int)) := ev.got hR.1 10 115 _ rfl rfl d10
                        have CC := Lib.hid (HSE2.out W (HB45.out.trans (HB.mono HB45.out.size)))
                        have HR1 := Lib.hid hR
                        clear hde ev hd HB hR
                        go_simp
                        refine CC.out.mono ?_
                        rintro e W1 ⟨rfl, hb⟩
                        exact hK _ _ ⟨HR1.out.1.step (.inr rfl), HR1.out.2.trans (hb.mono HR1.out.2.size)⟩
                      refine Reg.Steps.cons (k' := 13) rfl ?_ ?_
                      · intro D vals a W hR hd hde ev K' hK
                        have HB := hR.2
                        have dg := Reg.dep hde 4 rfl
                        have xg : a.tmps[109]? = some (.bool true) := ev.got hR.1 4 109 _ rfl rfl dg
                        rw [if_pos (Reg.wanted_of rfl (Reg.yielded_of (t := 109) rfl xg))]
                        have x7 : a.tmps[7]? = some (.slice (some ⟨gW, 0, none⟩) p c2) := (ev.out 7 (by kernel_rfl)).trans rfl
                        clear hde ev hd HB
                        go_simp
                        exact hK _ _ ⟨hR.1.step (.inr rfl), hR.2⟩
                      refine Reg.Steps.cons (k' := 14) rfl ?_ ?_
                      · intro D vals a W hR hd hde ev K' hK
                        have HB := hR.2
                        have dg := Reg.dep hde 4 rfl
                        have xg : a.tmps[109]? = some (.bool true) := ev.got hR.1 4 109 _ rfl rfl dg
                        rw [if_pos (Reg.wanted_of rfl (Reg.yielded_of (t := 109) rfl xg))]
                        have x14 : a.tmps[14]? = some (.int .i64 (t : Int)) := (ev.out 14 (by kernel_rfl)).trans rfl
                        clear hde ev hd HB
                        go_simp
                        exact hK _ _ ⟨hR.1.step (.inr rfl), hR.2⟩
                      refine Reg.Steps.cons (k' := 15) rfl ?_ ?_
                      · intro D vals a W hR hd hde ev K' hK
                        have HB := hR.2
                        have dg := Reg.dep hde 4 rfl
                        have xg : a.tmps[109]? = some (.bool true) := ev.got hR.1 4 109 _ rfl rfl dg
                        rw [if_pos (Reg.wanted_of rfl (Reg.yielded_of (t := 109) rfl xg))]
                        have d12 := Reg.dep hde 12 rfl
                        have x117 : a.tmps[117]? = some (.slice (some ⟨gW, 0, none⟩) p c2) := ev.got hR.1 12 117 _ rfl rfl d12
                        have d13 := Reg.dep hde 13 rfl
                        have x118 : a.tmps[118]? = some (.int .i64 (t : Int)) := ev.got hR.1 13 118 _ rfl rfl d13
                        clear hde ev hd HB
                        go_simp
                        exact hK _ _ ⟨hR.1.step (.inr rfl), hR.2⟩
                      refine Reg.Steps.cons (k' := 16) rfl ?_ ?_
                      · intro D vals a W hR hd hde ev K' hK
                        have HB := hR.2
                        have dg := Reg.dep hde 4 rfl
                        have xg : a.tmps[109]? = some (.bool true) := ev.got hR.1 4 109 _ rfl rfl dg
                        rw [if_pos (Reg.wanted_of rfl (Reg.yielded_of (t := 109) rfl xg))]
                        have d14 := Reg.dep hde 14 rfl
                        have x119 : a.tmps[119]? = some (.pointer (some ⟨gW, t, none⟩)) := ev.got hR.1 14 119 _ rfl rfl d14
                        have q := HWT.out W HB
                        clear hde ev hd HB
                        go_simp
                        exact hK _ _ ⟨hR.1.step (.inr rfl), hR.2⟩
                      refine Reg.Steps.cons (k' := 17) rfl ?_ ?_
                      · intro D vals a W hR hd hde ev K' hK
                        have HB := hR.2
                        have dg := Reg.dep hde 4 rfl
                        have xg : a.tmps[109]? = some (.bool true) := ev.got hR.1 4 109 _ rfl rfl dg
                        rw [if_pos (Reg.wanted_of rfl (Reg.yielded_of (t := 109) rfl xg))]
                        have x16 : a.tmps[16]? = some (.int .u64 (x : Int)) := (ev.out 16 (by kernel_rfl)).trans rfl
                        clear hde ev hd HB
                        go_simp
                        exact hK _ _ ⟨hR.1.step (.inr rfl), hR.2⟩
                      refine Reg.Steps.cons (k' := 18) rfl ?_ ?_
                      · intro D vals a W hR hd hde ev K' hK
                        have HB := hR.2
                        have dg := Reg.dep hde 4 rfl
                        have xg : a.tmps[109]? = some (.bool true) := ev.got hR.1 4 109 _ rfl rfl dg
                        rw [if_pos (Reg.wanted_of rfl (Reg.yielded_of (t := 109) rfl xg))]
                        have d15 := Reg.dep hde 15 rfl
                        have x120 : a.tmps[120]? = some (.slice (some ⟨gj, 0, none⟩) 60 dj) := ev.got hR.1 15 120 _ rfl rfl d15
                        have d16 := Reg.dep hde 16 rfl
                        have x121 : a.tmps[121]? = some (.int .u64 (x : Int)) := ev.got hR.1 16 121 _ rfl rfl d16
                        clear hde ev hd HB
                        go_simp
                        exact hK _ _ ⟨hR.1.step (.inr rfl), hR.2⟩
                      refine Reg.Steps.cons (k' := 19) rfl ?_ ?_
                      · intro D vals a W hR hd hde ev K' hK
                        have HB := hR.2
                        have dg := Reg.dep hde 4 rfl
                        have xg : a.tmps[109]? = some (.bool true) := ev.got hR.1 4 109 _ rfl rfl dg
                        rw [if_pos (Reg.wanted_of rfl (Reg.yielded_of (t := 109) rfl xg))]
                        have d17 := Reg.dep hde 17 rfl
                        have x122 : a.tmps[122]? = some (.pointer (some ⟨gj, x, none⟩)) := ev.got hR.1 17 122 _ rfl rfl d17
                        have q := HWB.out W HB
                        clear hde ev hd HB
                        go_simp
                        exact hK _ _ ⟨hR.1.step (.inr rfl), hR.2⟩
                      refine Reg.Steps.cons (k' := 20) rfl ?_ ?_
                      · intro D vals a W hR hd hde ev K' hK
                        have HB := hR.2
                        have dg := Reg.dep hde 4 rfl
                        have xg : a.tmps[109]? = some (.bool true) := ev.got hR.1 4 109 _ rfl rfl dg
                        rw [if_pos (Reg.wanted_of rfl (Reg.yielded_of (t := 109) rfl xg))]
                        have d11 := Reg.dep hde 11 rfl
                        have x116 : a.tmps[116]? = some (.bool bb) := ev.got hR.1 11 116 _ rfl rfl d11
                        have d18 := Reg.dep hde 18 rfl
                        have x123 : a.tmps[123]? = some (.bool bb) := ev.got hR.1 18 123 _ rfl rfl d18
                        clear hde ev hd HB
                        go_simp
                        exact hK _ _ ⟨hR.1.step (.inr rfl), hR.2⟩
                      refine Reg.Steps.cons (k' := 21) rfl ?_ ?_
                      · intro D vals a W hR hd hde ev K' hK
                        have HB := hR.2
                        have d4 := Reg.dep hde 4 rfl
                        have x109 : a.tmps[109]? = some (.bool true) := ev.got hR.1 4 109 _ rfl rfl d4
                        have d19 := Reg.dep hde 19 rfl
                        have x124 : a.tmps[124]? = some (.bool false) := ev.got hR.1 19 124 _ rfl rfl d19
                        clear hde ev hd HB
                        go_simp
                        exact hK _ _ ⟨hR.1.step (.inr rfl), hR.2⟩
                      exact Reg.Steps.nil
                    · intro D vals W2 hD hR
                      have hB2 := hR.2
                      have ev20 := hR.1 20 _ rfl (hD 20 (by decide))
                      clear hR hD
                      simp only [Reg.fin, Act.put, List.setIfInBounds_toArray, List.set_cons_zero, List.set_cons_succ, ev20]
                      clear ev20
                      generalize vals 0 = z0; generalize vals 1 = z1; generalize vals 2 = z2; generalize vals 3 = z3; generalize vals 4 = z4; generalize vals 5 = z5; generalize vals 6 = z6; generalize vals 7 = z7; generalize vals 8 = z8; generalize vals 9 = z9; generalize vals 10 = z10; generalize vals 11 = z11; generalize vals 12 = z12; generalize vals 13 = z13; generalize vals 14 = z14; generalize vals 15 = z15; generalize vals 16 = z16; generalize vals 17 = z17; generalize vals 18 = z18; generalize vals 19 = z19
                      clear vals
                      have HBF := Lib.hid (HB6.out.trans (hB2.mono HB6.out.size))
                      clear hB2
                      go_wp2_with fail
                      go_roundw
                      case rel => exact ⟨x + 1, by omega, by go_num, HBF.out⟩
                      case measure => simp [intOf]; omega
                · obtain rfl : x = 60 := by omega
                  have HBF := Lib.hid (HB4.out.trans (HB6.out.mono HB4.out.size))
                  go_wp2_with fail
                  go_roundw
                  case rel => exact ⟨t + 1, by omega, by go_num, HBF.out⟩
                  case measure => simp [intOf]; omega
            · obtain rfl : p = t := by omega
              have HFIN := Lib.hid (bel_trans HB1.out (HAE.out.below HBO.out).1.bel)
              go_wp2_with fail
              go_ret
              exact ⟨rfl, HFIN.out⟩
end Go.Proofs.Ytaadkgcpkghgmaa.Clg
