/- SnapPlays: its walk. -/
import Derived.Test.YtaadkgcpkghgmaaSnapY
namespace Go.Proofs.Ytaadkgcpkghgmaa.Clg
open Go.ChangeMaps Go.MapKept Go.RowKit Go.Proofs.Ytaadkgcpkghgmaa.Nums Go.Proofs.Ytaadkgcpkghgmaa.Mem
set_option linter.unusedVariables false
set_option linter.unusedSimpArgs false
set_option maxRecDepth 100000
theorem cas_cells {w : World} {A : Option Addr} {n c : Nat} {l : List Sp} (h : Sl w w.heap.size 4 A n c (cas l)) {w' : World} (hb : Below w.heap.size w w') {k : Nat} {o : Sp} (ho : l[k]? = some o) (hn : l.length = n) : ∃ ad, A = some ad ∧
    w'.cell? (ad.add (k * 4)) = some (.int .u64 (o.own : Int)) ∧ w'.cell? ⟨(ad.add (k * 4)).block, (ad.add (k * 4)).off + 1, none⟩ = some (.int .u64 (o.xmin : Int)) ∧ w'.cell? ⟨(ad.add (k * 4)).block, (ad.add (k * 4)).off + 2, none⟩ = some (.int .u64 (o.xmax : Int)) ∧ w'.cell? ⟨(ad.add (k * 4)).block, (ad.add (k * 4)).off + 3, none⟩ = some (.slice o.A o.run.length o.c) := by
  have hk := (List.getElem?_eq_some_iff.1 ho).1
  obtain ⟨ad, hA, hat⟩ := h.at_ (by omega)
  have key : ∀ j y, o.ca[j]? = some y → j < 4 → w'.cell? (ad.add (k * 4 + j)) = some y := fun j y hy hj => (hat.below hb).2 (k * 4 + j) y (by rw [cas_at l k o ho j hj]; exact hy)
  have e : ∀ j y, o.ca[j + 1]? = some y → j + 1 < 4 → w'.cell? ⟨(ad.add (k * 4)).block, (ad.add (k * 4)).off + (j + 1), none⟩ = some y := fun j y hy hj => by
    rw [← off_succ]
    exact key _ _ hy hj
  exact ⟨ad, hA, key 0 _ rfl (by omega), e 0 _ rfl (by omega), e 1 _ rfl (by omega), e 2 _ rfl (by omega)⟩
theorem PS.slA {w0 w : World} {K : Nat → Prop} {PB P Q : Nat} {S : List Nat} {l : List Sp} {A B : Option Addr} {c d p : Nat} (h : PS w0 w K PB P Q S l A c B d) (hp : l.length = p) : Sl w w.heap.size 4 A p c (cas l) := by
  have h := h.oa
  rw [hp] at h
  obtain ⟨A', c', e, hs⟩ := Sl.of_own h
  injection e with e1 _ e3
  subst e1 e3
  exact hs
theorem cell_keep {w w' : World} {a : Addr} {v : Value} (hb : Below w.heap.size w w') (h : w.cell? a = some v) : w'.cell? a = some v := by rw [hb.cell (World.block_lt_of_cell? w a h)]; exact h
theorem PS.slB {w0 w : World} {K : Nat → Prop} {PB P Q : Nat} {S : List Nat} {l : List Sp} {A B : Option Addr} {c d p : Nat} (h : PS w0 w K PB P Q S l A c B d) (hp : l.length = p) : Sl w w.heap.size 3 B p d (cbs l) := by
  have h := h.ob
  rw [hp] at h
  obtain ⟨A', c', e, hs⟩ := Sl.of_own h
  injection e with e1 _ e3
  subst e1 e3
  exact hs
def toV (s : Sp) : Sv := ⟨s.own, s.xmin, s.xmax, s.A, s.run.length, s.c⟩
theorem svs_cas (l : List Sp) : svs (l.map toV) = cas l := by
  unfold svs cas
  rw [List.flatMap_map]
  rfl
set_option maxHeartbeats 8000000 in
theorem plays10_walk (w : World) (l : List O10) (A : Option Addr) (n c : Nat) (l2 : List St) (SA : Option Addr) (sn sc : Nat) (hl : l.length = n) (hs : Sl w w.heap.size 2 A n c (o10_s l)) (hok : ∀ o ∈ l, o.ok) (hl2 : l2.length = sn) (hs2 : Sl w w.heap.size 2 SA sn sc (st_s l2)) (hok2 : ∀ o ∈ l2, o.ok) :
    Calls Try.prog 3 #[.slice A n c, .slice SA sn sc] w fun e w' => e = .returned (.bool true) ∧ Below w.heap.size w w' := by
  have HS := Lib.hid hs
  have HL := Lib.hid hl
  have HOK := Lib.hid hok
  have HS2 := Lib.hid hs2
  have HL2 := Lib.hid hl2
  have HOK2 := Lib.hid hok2
  have hcap := hs.cap
  have hle := hs.le
  have hscap := hs2.cap
  have hsle := hs2.le
  unfold maxLen at hcap hscap
  clear hs hl hok hs2 hl2 hok2
  go_enter Try.func3, Try.ntmps3
  go_wp2_with fail
  refine (awakeS_any w).mono ?_
  rintro e w1 ⟨rfl, hb1⟩
  have HB1 := Lib.hid hb1
  have CP : Hid (Calls Try.prog 13 #[.slice A n c, .int .i64 40] w1 (PlayP w1)) := Lib.hid (play_any w1 l A n c 40 (by omega) HL.out (Sl.on HS.out hb1) HOK.out)
  clear hb1
  go_wp2_with fail
  refine CP.out.mono ?_
  rintro e w2 ⟨K, PB, P, Q, S, sl, A1, c1, B1, d1, rfl, hps, hl40⟩
  have HPS := Lib.hid hps
  have HB2 := Lib.hid (bel_trans HB1.out hps.ap.bel)
  obtain ⟨p, hp⟩ : ∃ p, sl.length = p := ⟨_, rfl⟩
  have HP := Lib.hid hp
  have HCA := Lib.hid (hps.slA hp)
  have HCBL := Lib.hid (hps.slB hp)
  have hle1 := HCA.out.le
  have hcap1 := HCA.out.cap
  have hle3 := HCBL.out.le
  have hcap3 := HCBL.out.cap
  unfold maxLen at hcap1 hcap3
  rw [hp] at hl40
  have HPSW : Hid (∀ W, Below w2.heap.size w2 W → PS w1 W K PB P Q S sl A1 c1 B1 d1) := Lib.hid (fun W h => HPS.out.below h)
  obtain ⟨hz, hhz⟩ : ∃ hz, hzOf (1 + S.length) (sl.map Sp.xmin) = hz := ⟨_, rfl⟩
  have CH1 : Hid (∀ W, Below w2.heap.size w2 W → Calls Try.prog 14 #[.pointer (some ⟨P, 0, none⟩), .slice A1 p c1] W fun e w' => e = .returned (.int .u64 (hz : Int)) ∧ Below W.heap.size W w') := Lib.hid (fun W h => by
    have hps := HPSW.out W h
    obtain ⟨F, hal⟩ := hps.ap.al
    have := horizon_any hal (l := sl.map toV) (A := A1) (n := p) (c := c1) ((List.length_map toV).trans hp) (by rw [svs_cas]; exact hps.slA hp)
    rw [List.map_map] at this
    rw [← hhz]
    exact this)
  have CH2 : Hid (∀ W, Below w2.heap.size w2 W → Calls Try.prog 15 #[.pointer (some ⟨Q, 0, none⟩), .slice B1 p d1] W fun e w' => e = .returned (.int .u64 (hz : Int)) ∧ Below W.heap.size W w') := Lib.hid (fun W h => by
    have hps := HPSW.out W h
    obtain ⟨G, hrl⟩ := hps.ap.rl
    have := rhorizon_any hrl (l := sl) (A := B1) (n := p) (c := d1) hp (hps.slB hp) (fun s hs => Sp.okp (hps.sp s hs).2 (hps.sp s hs).1.b)
    rw [hhz] at this
    exact this)
  clear hps CP hp hhz
  go_wp2_with fail
  have HB2V : Hid (Below w2.heap.size w2 w2) := Lib.hid (Below.refl _ _)
  obtain ⟨V, hV⟩ : ∃ V, V = w2 := ⟨_, rfl⟩
  have HB2V : Hid (Below w2.heap.size w2 V) := Lib.hid (by rw [hV]; exact Below.refl _ _)
  rw [← hV]
  clear hV
  refine Reg.wp_region_inv_lit (by kernel_rfl) (by kernel_rfl) (fun D vals W => Reg.Fx (fun k9 => ([some (.pointer (some ⟨PB, 0, none⟩)), some (.pointer (some ⟨PB, 0, none⟩)), some (.pointer (some ⟨PB, 0, none⟩)), some (.pointer (some ⟨P, 0, none⟩)), some (.pointer (some ⟨PB, 0, none⟩)), some (.pointer (some ⟨PB, 0, none⟩)), some (.pointer (some ⟨PB, 2, none⟩)), some (.slice A1 p c1), some (.int .u64 (hz : Int)), some (.int .u64 (hz : Int))] : List (Option Value)).getD k9 none) D vals ∧ Below V.heap.size V W) ⟨Reg.Fx.init _ _, ⟨rfl, rfl, rfl, Nat.le_refl _, fun _ _ => rfl⟩⟩ (fun Q' => ?_) ?_
  · refine Reg.Steps.cons (k' := 1) rfl ?_ ?_
    · intro D vals a W hR hd hde ev K' hK
      have HB := hR.2
      have x5 : a.tmps[5]? = some (.pointer (some ⟨PB, 0, none⟩)) := (ev.out 5 (by kernel_rfl)).trans rfl
      clear hde ev hd HB
      go_simp
      exact hK _ _ ⟨hR.1.step (.inr rfl), hR.2⟩
    refine Reg.Steps.cons (k' := 2) rfl ?_ ?_
    · intro D vals a W hR hd hde ev K' hK
      have HB := hR.2
      have d0 := Reg.dep hde 0 rfl
      have x22 : a.tmps[22]? = some (.pointer (some ⟨PB, 0, none⟩)) := ev.got hR.1 0 22 _ rfl rfl d0
      clear hde ev hd HB
      go_simp
      exact hK _ _ ⟨hR.1.step (.inr rfl), hR.2⟩
    refine Reg.Steps.cons (k' := 3) rfl ?_ ?_
    · intro D vals a W hR hd hde ev K' hK
      have HB := hR.2
      have d1 := Reg.dep hde 1 rfl
      have x23 : a.tmps[23]? = some (.pointer (some ⟨PB, 0, none⟩)) := ev.got hR.1 1 23 _ rfl rfl d1
      clear hde ev hd HB
      go_simp
      exact hK _ _ ⟨hR.1.step (.inr rfl), hR.2⟩
    refine Reg.Steps.cons (k' := 4) rfl ?_ ?_
    · intro D vals a W hR hd hde ev K' hK
      have HB := hR.2
      have d2 := Reg.dep hde 2 rfl
      have x24 : a.tmps[24]? = some (.pointer (some ⟨PB, 0, none⟩)) := ev.got hR.1 2 24 _ rfl rfl d2
      have q := (HPSW.out W (HB2V.out.trans (HB.mono HB2V.out.size))).pb.cell 0
      clear hde ev hd HB
      go_simp
      exact hK _ _ ⟨hR.1.step (.inr rfl), hR.2⟩
    refine Reg.Steps.cons (k' := 5) rfl ?_ ?_
    · intro D vals a W hR hd hde ev K' hK
      have HB := hR.2
      have x5 : a.tmps[5]? = some (.pointer (some ⟨PB, 0, none⟩)) := (ev.out 5 (by kernel_rfl)).trans rfl
      clear hde ev hd HB
      go_simp
      exact hK _ _ ⟨hR.1.step (.inr rfl), hR.2⟩
    refine Reg.Steps.cons (k' := 6) rfl ?_ ?_
    · intro D vals a W hR hd hde ev K' hK
      have HB := hR.2
      have d4 := Reg.dep hde 4 rfl
      have x26 : a.tmps[26]? = some (.pointer (some ⟨PB, 0, none⟩)) := ev.got hR.1 4 26 _ rfl rfl d4
      clear hde ev hd HB
      go_simp
      exact hK _ _ ⟨hR.1.step (.inr rfl), hR.2⟩
    refine Reg.Steps.cons (k' := 7) rfl ?_ ?_
    · intro D vals a W hR hd hde ev K' hK
      have HB := hR.2
      have d5 := Reg.dep hde 5 rfl
      have x27 : a.tmps[27]? = some (.pointer (some ⟨PB, 0, none⟩)) := ev.got hR.1 5 27 _ rfl rfl d5
      clear hde ev hd HB
      go_simp
      exact hK _ _ ⟨hR.1.step (.inr rfl), hR.2⟩
    refine Reg.Steps.cons (k' := 8) rfl ?_ ?_
    · intro D vals a W hR hd hde ev K' hK
      have HB := hR.2
      have d6 := Reg.dep hde 6 rfl
      have x28 : a.tmps[28]? = some (.pointer (some ⟨PB, 2, none⟩)) := ev.got hR.1 6 28 _ rfl rfl d6
      have q := (HPSW.out W (HB2V.out.trans (HB.mono HB2V.out.size))).pb.cell 2
      rw [HP.out] at q
      clear hde ev hd HB
      go_simp
      exact hK _ _ ⟨hR.1.step (.inr rfl), hR.2⟩
    refine Reg.Steps.cons (k' := 9) rfl ?_ ?_
    · intro D vals a W hR hd hde ev K' hK
      have HB := hR.2
      have d3 := Reg.dep hde 3 rfl
      have x25 : a.tmps[25]? = some (.pointer (some ⟨P, 0, none⟩)) := ev.got hR.1 3 25 _ rfl rfl d3
      have d7 := Reg.dep hde 7 rfl
      have x29 : a.tmps[29]? = some (.slice A1 p c1) := ev.got hR.1 7 29 _ rfl rfl d7
      have CC := Lib.hid (CH1.out W (HB2V.out.trans (HB.mono HB2V.out.size)))
      have HR1 := Lib.hid hR
      clear hde ev hd HB hR
      go_simp
      refine CC.out.mono ?_
      rintro e W1 ⟨rfl, hb⟩
      exact hK _ _ ⟨HR1.out.1.step (.inr rfl), HR1.out.2.trans (hb.mono HR1.out.2.size)⟩
    refine Reg.Steps.cons (k' := 10) rfl ?_ ?_
    · intro D vals a W hR hd hde ev K' hK
      have HB := hR.2
      have d8 := Reg.dep hde 8 rfl
      have x30 : a.tmps[30]? = some (.int .u64 (hz : Int)) := ev.got hR.1 8 30 _ rfl rfl d8
      clear hde ev hd HB
      go_simp
      exact hK _ _ ⟨hR.1.step (.inr rfl), hR.2⟩
    exact Reg.Steps.nil
  · intro D vals W2 hD hR
    have hB2 := hR.2
    have ev9 := hR.1 9 _ rfl (hD 9 (by decide))
    clear hR hD
    simp only [Reg.fin, Act.put, List.setIfInBounds_toArray, List.set_cons_zero, List.set_cons_succ, ev9]
    clear ev9
    generalize vals 0 = z0; generalize vals 1 = z1; generalize vals 2 = z2; generalize vals 3 = z3; generalize vals 4 = z4; generalize vals 5 = z5; generalize vals 6 = z6; generalize vals 7 = z7; generalize vals 8 = z8
    clear vals
    go_wp2_with fail
    have HB2V2 := Lib.hid (HB2V.out.trans (hB2.mono HB2V.out.size))
    obtain ⟨V3, hV3⟩ : ∃ V3, V3 = W2 := ⟨_, rfl⟩
    rw [← hV3] at HB2V2 ⊢
    clear hV3 hB2 W2 HB2V
    clear V
    obtain ⟨V, hV⟩ : ∃ V, V = V3 := ⟨_, rfl⟩
    rw [← hV] at HB2V2 ⊢
    have HB2V := HB2V2
    clear hV V3 HB2V2
    refine Reg.wp_region_inv_lit (by kernel_rfl) (by kernel_rfl) (fun D vals W => Reg.Fx (fun k9 => ([some (.int .u64 (hz : Int)), some (.pointer (some ⟨PB, 0, none⟩)), some (.pointer (some ⟨PB, 0, none⟩)), some (.pointer (some ⟨PB, 1, none⟩)), some (.pointer (some ⟨Q, 0, none⟩)), some (.pointer (some ⟨PB, 0, none⟩)), some (.pointer (some ⟨PB, 0, none⟩)), some (.pointer (some ⟨PB, 3, none⟩)), some (.slice B1 p d1), some (.int .u64 (hz : Int)), some (.bool false)] : List (Option Value)).getD k9 none) D vals ∧ Below V.heap.size V W) ⟨Reg.Fx.init _ _, ⟨rfl, rfl, rfl, Nat.le_refl _, fun _ _ => rfl⟩⟩ (fun Q' => ?_) ?_
    · refine Reg.Steps.cons (k' := 1) rfl ?_ ?_
      · intro D vals a W hR hd hde ev K' hK
        have HB := hR.2
        have x7 : a.tmps[7]? = some (.int .u64 (hz : Int)) := (ev.out 7 (by kernel_rfl)).trans rfl
        clear hde ev hd HB
        go_simp
        exact hK _ _ ⟨hR.1.step (.inr rfl), hR.2⟩
      refine Reg.Steps.cons (k' := 2) rfl ?_ ?_
      · intro D vals a W hR hd hde ev K' hK
        have HB := hR.2
        have x5 : a.tmps[5]? = some (.pointer (some ⟨PB, 0, none⟩)) := (ev.out 5 (by kernel_rfl)).trans rfl
        clear hde ev hd HB
        go_simp
        exact hK _ _ ⟨hR.1.step (.inr rfl), hR.2⟩
      refine Reg.Steps.cons (k' := 3) rfl ?_ ?_
      · intro D vals a W hR hd hde ev K' hK
        have HB := hR.2
        have d1 := Reg.dep hde 1 rfl
        have x32 : a.tmps[32]? = some (.pointer (some ⟨PB, 0, none⟩)) := ev.got hR.1 1 32 _ rfl rfl d1
        clear hde ev hd HB
        go_simp
        exact hK _ _ ⟨hR.1.step (.inr rfl), hR.2⟩
      refine Reg.Steps.cons (k' := 4) rfl ?_ ?_
      · intro D vals a W hR hd hde ev K' hK
        have HB := hR.2
        have d2 := Reg.dep hde 2 rfl
        have x33 : a.tmps[33]? = some (.pointer (some ⟨PB, 0, none⟩)) := ev.got hR.1 2 33 _ rfl rfl d2
        clear hde ev hd HB
        go_simp
        exact hK _ _ ⟨hR.1.step (.inr rfl), hR.2⟩
      refine Reg.Steps.cons (k' := 5) rfl ?_ ?_
      · intro D vals a W hR hd hde ev K' hK
        have HB := hR.2
        have d3 := Reg.dep hde 3 rfl
        have x34 : a.tmps[34]? = some (.pointer (some ⟨PB, 1, none⟩)) := ev.got hR.1 3 34 _ rfl rfl d3
        have q := (HPSW.out W (HB2V.out.trans (HB.mono HB2V.out.size))).pb.cell 1
        clear hde ev hd HB
        go_simp
        exact hK _ _ ⟨hR.1.step (.inr rfl), hR.2⟩
      refine Reg.Steps.cons (k' := 6) rfl ?_ ?_
      · intro D vals a W hR hd hde ev K' hK
        have HB := hR.2
        have x5 : a.tmps[5]? = some (.pointer (some ⟨PB, 0, none⟩)) := (ev.out 5 (by kernel_rfl)).trans rfl
        clear hde ev hd HB
        go_simp
        exact hK _ _ ⟨hR.1.step (.inr rfl), hR.2⟩
      refine Reg.Steps.cons (k' := 7) rfl ?_ ?_
      · intro D vals a W hR hd hde ev K' hK
        have HB := hR.2
        have d5 := Reg.dep hde 5 rfl
        have x36 : a.tmps[36]? = some (.pointer (some ⟨PB, 0, none⟩)) := ev.got hR.1 5 36 _ rfl rfl d5
        clear hde ev hd HB
        go_simp
        exact hK _ _ ⟨hR.1.step (.inr rfl), hR.2⟩
      refine Reg.Steps.cons (k' := 8) rfl ?_ ?_
      · intro D vals a W hR hd hde ev K' hK
        have HB := hR.2
        have d6 := Reg.dep hde 6 rfl
        have x37 : a.tmps[37]? = some (.pointer (some ⟨PB, 0, none⟩)) := ev.got hR.1 6 37 _ rfl rfl d6
        clear hde ev hd HB
        go_simp
        exact hK _ _ ⟨hR.1.step (.inr rfl), hR.2⟩
      refine Reg.Steps.cons (k' := 9) rfl ?_ ?_
      · intro D vals a W hR hd hde ev K' hK
        have HB := hR.2
        have d7 := Reg.dep hde 7 rfl
        have x38 : a.tmps[38]? = some (.pointer (some ⟨PB, 3, none⟩)) := ev.got hR.1 7 38 _ rfl rfl d7
        have q := (HPSW.out W (HB2V.out.trans (HB.mono HB2V.out.size))).pb.cell 3
        rw [HP.out] at q
        clear hde ev hd HB
        go_simp
        exact hK _ _ ⟨hR.1.step (.inr rfl), hR.2⟩
      refine Reg.Steps.cons (k' := 10) rfl ?_ ?_
      · intro D vals a W hR hd hde ev K' hK
        have HB := hR.2
        have d4 := Reg.dep hde 4 rfl
        have x35 : a.tmps[35]? = some (.pointer (some ⟨Q, 0, none⟩)) := ev.got hR.1 4 35 _ rfl rfl d4
        have d8 := Reg.dep hde 8 rfl
        have x39 : a.tmps[39]? = some (.slice B1 p d1) := ev.got hR.1 8 39 _ rfl rfl d8
        have CC := Lib.hid (CH2.out W (HB2V.out.trans (HB.mono HB2V.out.size)))
        have HR1 := Lib.hid hR
        clear hde ev hd HB hR
        go_simp
        refine CC.out.mono ?_
        rintro e W1 ⟨rfl, hb⟩
        exact hK _ _ ⟨HR1.out.1.step (.inr rfl), HR1.out.2.trans (hb.mono HR1.out.2.size)⟩
      refine Reg.Steps.cons (k' := 11) rfl ?_ ?_
      · intro D vals a W hR hd hde ev K' hK
        have HB := hR.2
        have d0 := Reg.dep hde 0 rfl
        have x31 : a.tmps[31]? = some (.int .u64 (hz : Int)) := ev.got hR.1 0 31 _ rfl rfl d0
        have d9 := Reg.dep hde 9 rfl
        have x40 : a.tmps[40]? = some (.int .u64 (hz : Int)) := ev.got hR.1 9 40 _ rfl rfl d9
        clear hde ev hd HB
        go_simp
        exact hK _ _ ⟨hR.1.step (.inr rfl), hR.2⟩
      exact Reg.Steps.nil
    · intro D vals W2 hD hR
      have hB2 := hR.2
      have ev10 := hR.1 10 _ rfl (hD 10 (by decide))
      clear hR hD
      simp only [Reg.fin, Act.put, List.setIfInBounds_toArray, List.set_cons_zero, List.set_cons_succ, ev10]
      clear ev10
      generalize vals 0 = z0; generalize vals 1 = z1; generalize vals 2 = z2; generalize vals 3 = z3; generalize vals 4 = z4; generalize vals 5 = z5; generalize vals 6 = z6; generalize vals 7 = z7; generalize vals 8 = z8; generalize vals 9 = z9
      clear vals
      have HB3 := Lib.hid (HB2V.out.trans (hB2.mono HB2V.out.size))
      obtain ⟨W3, hW3⟩ : ∃ W3, W3 = W2 := ⟨_, rfl⟩
      rw [← hW3] at HB3 ⊢
      clear hW3 hB2 W2 HB2V
      go_wp2_with fail
      go_loopw [44] (fun i wo => ∃ q : Nat, q ≤ sn ∧ i = .int .i64 q ∧ Below w2.heap.size w2 wo) (fun i _ => sn - (intOf i).toNat)
      case atStart => exact ⟨0, by omega, rfl, HB3.out⟩
      case round =>
        obtain ⟨q, hq, rfl, hbo⟩ := hrel
        have HBO := Lib.hid hbo
        clear hbo
        by_cases hlq : q < sn
        · have hlq' : (q : Int) < sn := by omega
          obtain ⟨o, ho⟩ : ∃ o, l2[q]? = some o := ⟨_, List.getElem?_eq_getElem (by rw [HL2.out]; exact hlq)⟩
          obtain ⟨ad, rfl, x0, x1⟩ := st_cells HS2.out (bel_trans HB2.out HBO.out) ho HL2.out
          obtain ⟨ha0, hb0⟩ := HOK2.out o (List.mem_of_getElem? ho)
          obtain ⟨a0, b0⟩ := o
          have ha0 : a0 < 18446744073709551616 := ha0
          have hb0 : b0 < 18446744073709551616 := hb0
          have ha1 : (a0 : Int) < 18446744073709551616 := by omega
          have hb1 : (b0 : Int) < 18446744073709551616 := by omega
          clear ho
          by_cases h20 : 20 ≤ q
          · have h20' : (20 : Int) ≤ q := by omega
            have HFIN := Lib.hid (bel_trans HB2.out (HBO.out.alloc HBO.out.size (.cells #[.int .u64 (a0 : Int), .int .u64 (b0 : Int)] 37)))
            go_wp2_with fail
            go_ret
            exact ⟨rfl, HFIN.out⟩
          · have h20' : ¬ (20 : Int) ≤ q := by omega
            obtain ⟨r4, hr4⟩ : ∃ r4 : Nat, q % 4 = r4 := ⟨_, rfl⟩
            have hr4' : (q : Int) % 4 = r4 := by omega
            have hq0 : (0 : Int) ≤ q := by omega
            have hr5 : Int.tmod (q : Int) 4 = (r4 : Int) := by rw [Int.tmod_eq_emod_of_nonneg (by omega)]; exact hr4'
            by_cases h3 : r4 = 3
            · obtain ⟨ta, hta⟩ : ∃ ta, ta = a0 := ⟨_, rfl⟩
              obtain ⟨tb, htb⟩ : ∃ tb, tb = b0 := ⟨_, rfl⟩
              rw [← hta] at x0 ha0
              rw [← htb] at x1 hb0
              have HTA : Hid (ta < 18446744073709551616 ∧ tb < 18446744073709551616) := Lib.hid ⟨ha0, hb0⟩
              have CTU := Lib.hid (fun W => tuple_any W ta tb)
              have HB2U : Hid (Below w2.heap.size w2 (wr.alloc (.cells #[.int .u64 (ta : Int), .int .u64 (tb : Int)] 37))) := Lib.hid (HBO.out.alloc HBO.out.size _)
              have HKU : Hid (Blk (wr.alloc (.cells #[.int .u64 (ta : Int), .int .u64 (tb : Int)] 37)) wr.heap.size 37 #[.int .u64 (ta : Int), .int .u64 (tb : Int)]) := Lib.hid (Blk.new _ _ _)
              clear hta htb ha1 hb1
              subst h3
              clear hr4
              go_wp2_with fail
              clear x0 x1 hr4' hr5
              generalize (wr.alloc (.cells #[.int .u64 (ta : Int), .int .u64 (tb : Int)] 37)) = VU at *
              generalize wr.heap.size = gV at *
              refine (CTU.out _).mono ?_
              rintro e w4 ⟨rfl, hb4⟩
              have HB2T := Lib.hid (HB2U.out.trans (hb4.mono HB2U.out.size))
              have HKV5 := Lib.hid (HKU.out.below hb4 HKU.out.lt)
              clear hb4
              go_wp2_with fail
              have HB2V : Hid (Below w2.heap.size w2 (w4.alloc (.cells #[.int .u64 0, .int .u64 (ta : Int), .int .u64 (tb : Int), .int .i64 0, .int .i64 0, .slice none 0 0] 42))) := Lib.hid (HB2T.out.alloc HB2T.out.size _)
              have HKT : Hid (Blk (w4.alloc (.cells #[.int .u64 0, .int .u64 (ta : Int), .int .u64 (tb : Int), .int .i64 0, .int .i64 0, .slice none 0 0] 42)) w4.heap.size 42 #[.int .u64 0, .int .u64 (ta : Int), .int .u64 (tb : Int), .int .i64 0, .int .i64 0, .slice none 0 0]) := Lib.hid (Blk.new _ _ _)
              have HKV := Lib.hid (HKV5.out.alloc (.cells #[.int .u64 0, .int .u64 (ta : Int), .int .u64 (tb : Int), .int .i64 0, .int .i64 0, .slice none 0 0] 42))
              generalize (w4.alloc (.cells #[.int .u64 0, .int .u64 (ta : Int), .int .u64 (tb : Int), .int .i64 0, .int .i64 0, .slice none 0 0] 42)) = V at *
              generalize w4.heap.size = gT at *
              clear HKV5
              obtain ⟨dd, hdd⟩ : ∃ dd, deadB 1 S ta tb hz = dd := ⟨_, rfl⟩
              obtain ⟨de, hde⟩ : ∃ de, deadB 1 S ta tb tb = de := ⟨_, rfl⟩
              have CD1 : Hid (∀ W, Below w2.heap.size w2 W → Calls Try.prog 17 #[.pointer (some ⟨P, 0, none⟩), .agg #[.int .u64 0, .int .u64 (ta : Int), .int .u64 (tb : Int), .int .i64 0, .int .i64 0, .slice none 0 0], .int .u64 (hz : Int)] W fun e w' => e = .returned (.bool dd) ∧ Below W.heap.size W w') := Lib.hid (fun W h => by
                have hps := HPSW.out W h
                obtain ⟨F, hal⟩ := hps.ap.al
                have := dead_any hal hps.ok (z := hz) HTA.out.1 HTA.out.2
                rw [hdd] at this
                exact this)
              have CD2 : Hid (∀ W, Below w2.heap.size w2 W → Calls Try.prog 18 #[.pointer (some ⟨Q, 0, none⟩), .agg #[.int .u64 0, .int .u64 (ta : Int), .int .u64 (tb : Int), .int .i64 0, .int .i64 0, .slice none 0 0], .int .u64 (hz : Int)] W fun e w' => e = .returned (.bool dd) ∧ Below W.heap.size W w') := Lib.hid (fun W h => by
                have hps := HPSW.out W h
                obtain ⟨G, hrl⟩ := hps.ap.rl
                have := rdead_any hrl (by omega) (z := hz) HTA.out.1 HTA.out.2
                rw [hdd] at this
                exact this)
              have CD3 : Hid (∀ W, Below w2.heap.size w2 W → Calls Try.prog 17 #[.pointer (some ⟨P, 0, none⟩), .agg #[.int .u64 0, .int .u64 (ta : Int), .int .u64 (tb : Int), .int .i64 0, .int .i64 0, .slice none 0 0], .int .u64 (tb : Int)] W fun e w' => e = .returned (.bool de) ∧ Below W.heap.size W w') := Lib.hid (fun W h => by
                have hps := HPSW.out W h
                obtain ⟨F, hal⟩ := hps.ap.al
                have := dead_any hal hps.ok (z := tb) HTA.out.1 HTA.out.2
                rw [hde] at this
                exact this)
              have CD4 : Hid (∀ W, Below w2.heap.size w2 W → Calls Try.prog 18 #[.pointer (some ⟨Q, 0, none⟩), .agg #[.int .u64 0, .int .u64 (ta : Int), .int .u64 (tb : Int), .int .i64 0, .int .i64 0, .slice none 0 0], .int .u64 (tb : Int)] W fun e w' => e = .returned (.bool de) ∧ Below W.heap.size W w') := Lib.hid (fun W h => by
                have hps := HPSW.out W h
                obtain ⟨G, hrl⟩ := hps.ap.rl
                have := rdead_any hrl (by omega) (z := tb) HTA.out.1 HTA.out.2
                rw [hde] at this
                exact this)
              clear hdd hde
              refine Reg.wp_region_inv_lit (by kernel_rfl) (by kernel_rfl) (fun D vals W => Reg.Fx (fun k9 => ([some (.pointer (some ⟨PB, 0, none⟩)), some (.pointer (some ⟨PB, 0, none⟩)), some (.pointer (some ⟨PB, 0, none⟩)), some (.pointer (some ⟨P, 0, none⟩)), some (.agg #[.int .u64 0, .int .u64 (ta : Int), .int .u64 (tb : Int), .int .i64 0, .int .i64 0, .slice none 0 0]), some (.int .u64 (hz : Int)), some (.bool dd), some (.pointer (some ⟨PB, 0, none⟩)), some (.pointer (some ⟨PB, 0, none⟩)), some (.pointer (some ⟨PB, 1, none⟩)), some (.pointer (some ⟨Q, 0, none⟩)), some (.agg #[.int .u64 0, .int .u64 (ta : Int), .int .u64 (tb : Int), .int .i64 0, .int .i64 0, .slice none 0 0]), some (.int .u64 (hz : Int)), some (.bool dd), some (.bool false), some (.bool false), some (.pointer (some ⟨PB, 0, none⟩)), some (.pointer (some ⟨PB, 0, none⟩)), some (.pointer (some ⟨PB, 0, none⟩)), some (.pointer (some ⟨P, 0, none⟩)), some (.agg #[.int .u64 0, .int .u64 (ta : Int), .int .u64 (tb : Int), .int .i64 0, .int .i64 0, .slice none 0 0]), some (.pointer (some ⟨gV, 1, none⟩)), some (.int .u64 (tb : Int)), some (.bool de), some (.pointer (some ⟨PB, 0, none⟩)), some (.pointer (some ⟨PB, 0, none⟩)), some (.pointer (some ⟨PB, 1, none⟩)), some (.pointer (some ⟨Q, 0, none⟩)), some (.agg #[.int .u64 0, .int .u64 (ta : Int), .int .u64 (tb : Int), .int .i64 0, .int .i64 0, .slice none 0 0]), some (.pointer (some ⟨gV, 1, none⟩)), some (.int .u64 (tb : Int)), some (.bool de), some (.bool false), some (.bool false)] : List (Option Value)).getD k9 none) D vals ∧ Below V.heap.size V W) ⟨Reg.Fx.init _ _, ⟨rfl, rfl, rfl, Nat.le_refl _, fun _ _ => rfl⟩⟩ (fun Q' => ?_) ?_
              · refine Reg.Steps.cons (k' := 1) rfl ?_ ?_
                · intro D vals a W hR hd hde ev K' hK
                  have HB := hR.2
                  have x5 : a.tmps[5]? = some (.pointer (some ⟨PB, 0, none⟩)) := (ev.out 5 (by kernel_rfl)).trans rfl
                  clear hde ev hd HB
                  go_simp
                  exact hK _ _ ⟨hR.1.step (.inr rfl), hR.2⟩
                refine Reg.Steps.cons (k' := 2) rfl ?_ ?_
                · intro D vals a W hR hd hde ev K' hK
                  have HB := hR.2
                  have d0 := Reg.dep hde 0 rfl
                  have x66 : a.tmps[66]? = some (.pointer (some ⟨PB, 0, none⟩)) := ev.got hR.1 0 66 _ rfl rfl d0
                  clear hde ev hd HB
                  go_simp
                  exact hK _ _ ⟨hR.1.step (.inr rfl), hR.2⟩
                refine Reg.Steps.cons (k' := 3) rfl ?_ ?_
                · intro D vals a W hR hd hde ev K' hK
                  have HB := hR.2
                  have d1 := Reg.dep hde 1 rfl
                  have x67 : a.tmps[67]? = some (.pointer (some ⟨PB, 0, none⟩)) := ev.got hR.1 1 67 _ rfl rfl d1
                  clear hde ev hd HB
                  go_simp
                  exact hK _ _ ⟨hR.1.step (.inr rfl), hR.2⟩
                refine Reg.Steps.cons (k' := 4) rfl ?_ ?_
                · intro D vals a W hR hd hde ev K' hK
                  have HB := hR.2
                  have d2 := Reg.dep hde 2 rfl
                  have x68 : a.tmps[68]? = some (.pointer (some ⟨PB, 0, none⟩)) := ev.got hR.1 2 68 _ rfl rfl d2
                  have q := (HPSW.out W (HB2V.out.trans (HB.mono HB2V.out.size))).pb.cell 0
                  clear hde ev hd HB
                  go_simp
                  exact hK _ _ ⟨hR.1.step (.inr rfl), hR.2⟩
                refine Reg.Steps.cons (k' := 5) rfl ?_ ?_
                · intro D vals a W hR hd hde ev K' hK
                  have HB := hR.2
                  have x10 : a.tmps[10]? = some (.pointer (some ⟨gT, 0, none⟩)) := (ev.out 10 (by kernel_rfl)).trans rfl
                  have kt := HKT.out.below HB HKT.out.lt
                  have q0 := kt.cell 0
                  have q1 := kt.cell 1
                  have q2 := kt.cell 2
                  have q3 := kt.cell 3
                  have q4 := kt.cell 4
                  have q5 := kt.cell 5
                  clear kt
                  clear hde ev hd HB
                  go_simp
                  exact hK _ _ ⟨hR.1.step (.inr rfl), hR.2⟩
                refine Reg.Steps.cons (k' := 6) rfl ?_ ?_
                · intro D vals a W hR hd hde ev K' hK
                  have HB := hR.2
                  have x7 : a.tmps[7]? = some (.int .u64 (hz : Int)) := (ev.out 7 (by kernel_rfl)).trans rfl
                  clear hde ev hd HB
                  go_simp
                  exact hK _ _ ⟨hR.1.step (.inr rfl), hR.2⟩
                refine Reg.Steps.cons (k' := 7) rfl ?_ ?_
                · intro D vals a W hR hd hde ev K' hK
                  have HB := hR.2
                  have d3 := Reg.dep hde 3 rfl
                  have x69 : a.tmps[69]? = some (.pointer (some ⟨P, 0, none⟩)) := ev.got hR.1 3 69 _ rfl rfl d3
                  have d4 := Reg.dep hde 4 rfl
                  have x70 : a.tmps[70]? = some (.agg #[.int .u64 0, .int .u64 (ta : Int), .int .u64 (tb : Int), .int .i64 0, .int .i64 0, .slice none 0 0]) := ev.got hR.1 4 70 _ rfl rfl d4
                  have d5 := Reg.dep hde 5 rfl
                  have x71 : a.tmps[71]? = some (.int .u64 (hz : Int)) := ev.got hR.1 5 71 _ rfl rfl d5
                  have CC := Lib.hid (CD1.out W (HB2V.out.trans (HB.mono HB2V.out.size)))
                  have HR1 := Lib.hid hR
                  clear hde ev hd HB hR
                  go_simp
                  refine CC.out.mono ?_
                  rintro e W1 ⟨rfl, hb⟩
                  exact hK _ _ ⟨HR1.out.1.step (.inr rfl), HR1.out.2.trans (hb.mono HR1.out.2.size)⟩
                refine Reg.Steps.cons (k' := 8) rfl ?_ ?_
                · intro D vals a W hR hd hde ev K' hK
                  have HB := hR.2
                  have x5 : a.tmps[5]? = some (.pointer (some ⟨PB, 0, none⟩)) := (ev.out 5 (by kernel_rfl)).trans rfl
                  clear hde ev hd HB
                  go_simp
                  exact hK _ _ ⟨hR.1.step (.inr rfl), hR.2⟩
                refine Reg.Steps.cons (k' := 9) rfl ?_ ?_
                · intro D vals a W hR hd hde ev K' hK
                  have HB := hR.2
                  have d7 := Reg.dep hde 7 rfl
                  have x73 : a.tmps[73]? = some (.pointer (some ⟨PB, 0, none⟩)) := ev.got hR.1 7 73 _ rfl rfl d7
                  clear hde ev hd HB
                  go_simp
                  exact hK _ _ ⟨hR.1.step (.inr rfl), hR.2⟩
                refine Reg.Steps.cons (k' := 10) rfl ?_ ?_
                · intro D vals a W hR hd hde ev K' hK
                  have HB := hR.2
                  have d8 := Reg.dep hde 8 rfl
                  have x74 : a.tmps[74]? = some (.pointer (some ⟨PB, 0, none⟩)) := ev.got hR.1 8 74 _ rfl rfl d8
                  clear hde ev hd HB
                  go_simp
                  exact hK _ _ ⟨hR.1.step (.inr rfl), hR.2⟩
                refine Reg.Steps.cons (k' := 11) rfl ?_ ?_
                · intro D vals a W hR hd hde ev K' hK
                  have HB := hR.2
                  have d9 := Reg.dep hde 9 rfl
                  have x75 : a.tmps[75]? = some (.pointer (some ⟨PB, 1, none⟩)) := ev.got hR.1 9 75 _ rfl rfl d9
                  have q := (HPSW.out W (HB2V.out.trans (HB.mono HB2V.out.size))).pb.cell 1
                  clear hde ev hd HB
                  go_simp
                  exact hK _ _ ⟨hR.1.step (.inr rfl), hR.2⟩
                refine Reg.Steps.cons (k' := 12) rfl ?_ ?_
                · intro D vals a W hR hd hde ev K' hK
                  have HB := hR.2
                  have x10 : a.tmps[10]? = some (.pointer (some ⟨gT, 0, none⟩)) := (ev.out 10 (by kernel_rfl)).trans rfl
                  have kt := HKT.out.below HB HKT.out.lt
                  have q0 := kt.cell 0
                  have q1 := kt.cell 1
                  have q2 := kt.cell 2
                  have q3 := kt.cell 3
                  have q4 := kt.cell 4
                  have q5 := kt.cell 5
                  clear kt
                  clear hde ev hd HB
                  go_simp
                  exact hK _ _ ⟨hR.1.step (.inr rfl), hR.2⟩
                refine Reg.Steps.cons (k' := 13) rfl ?_ ?_
                · intro D vals a W hR hd hde ev K' hK
                  have HB := hR.2
                  have x7 : a.tmps[7]? = some (.int .u64 (hz : Int)) := (ev.out 7 (by kernel_rfl)).trans rfl
                  clear hde ev hd HB
                  go_simp
                  exact hK _ _ ⟨hR.1.step (.inr rfl), hR.2⟩
                refine Reg.Steps.cons (k' := 14) rfl ?_ ?_
                · intro D vals a W hR hd hde ev K' hK
                  have HB := hR.2
                  have d10 := Reg.dep hde 10 rfl
                  have x76 : a.tmps[76]? = some (.pointer (some ⟨Q, 0, none⟩)) := ev.got hR.1 10 76 _ rfl rfl d10
                  have d11 := Reg.dep hde 11 rfl
                  have x77 : a.tmps[77]? = some (.agg #[.int .u64 0, .int .u64 (ta : Int), .int .u64 (tb : Int), .int .i64 0, .int .i64 0, .slice none 0 0]) := ev.got hR.1 11 77 _ rfl rfl d11
                  have d12 := Reg.dep hde 12 rfl
                  have x78 : a.tmps[78]? = some (.int .u64 (hz : Int)) := ev.got hR.1 12 78 _ rfl rfl d12
                  have CC := Lib.hid (CD2.out W (HB2V.out.trans (HB.mono HB2V.out.size)))
                  have HR1 := Lib.hid hR
                  clear hde ev hd HB hR
                  go_simp
                  refine CC.out.mono ?_
                  rintro e W1 ⟨rfl, hb⟩
                  exact hK _ _ ⟨HR1.out.1.step (.inr rfl), HR1.out.2.trans (hb.mono HR1.out.2.size)⟩
                refine Reg.Steps.cons (k' := 15) rfl ?_ ?_
                · intro D vals a W hR hd hde ev K' hK
                  have HB := hR.2
                  have d6 := Reg.dep hde 6 rfl
                  have x72 : a.tmps[72]? = some (.bool dd) := ev.got hR.1 6 72 _ rfl rfl d6
                  have d13 := Reg.dep hde 13 rfl
                  have x79 : a.tmps[79]? = some (.bool dd) := ev.got hR.1 13 79 _ rfl rfl d13
                  clear hde ev hd HB
                  go_simp
                  exact hK _ _ ⟨hR.1.step (.inr rfl), hR.2⟩
                refine Reg.Steps.cons (k' := 16) rfl ?_ ?_
                · intro D vals a W hR hd hde ev K' hK
                  have HB := hR.2
                  have d14 := Reg.dep hde 14 rfl
                  have x80 : a.tmps[80]? = some (.bool false) := ev.got hR.1 14 80 _ rfl rfl d14
                  clear hde ev hd HB
                  go_simp
                  exact hK _ _ ⟨hR.1.step (.inr rfl), hR.2⟩
                refine Reg.Steps.cons (k' := 17) rfl ?_ ?_
                · intro D vals a W hR hd hde ev K' hK
                  have HB := hR.2
                  have dg := Reg.dep hde 15 rfl
                  have xg : a.tmps[81]? = some (.bool false) := ev.got hR.1 15 81 _ rfl rfl dg
                  rw [if_pos (Reg.wanted_of rfl (Reg.yielded_of (t := 81) rfl xg))]
                  have x5 : a.tmps[5]? = some (.pointer (some ⟨PB, 0, none⟩)) := (ev.out 5 (by kernel_rfl)).trans rfl
                  clear hde ev hd HB
                  go_simp
                  exact hK _ _ ⟨hR.1.step (.inr rfl), hR.2⟩
                refine Reg.Steps.cons (k' := 18) rfl ?_ ?_
                · intro D vals a W hR hd hde ev K' hK
                  have HB := hR.2
                  have dg := Reg.dep hde 15 rfl
                  have xg : a.tmps[81]? = some (.bool false) := ev.got hR.1 15 81 _ rfl rfl dg
                  rw [if_pos (Reg.wanted_of rfl (Reg.yielded_of (t := 81) rfl xg))]
                  have d16 := Reg.dep hde 16 rfl
                  have x82 : a.tmps[82]? = some (.pointer (some ⟨PB, 0, none⟩)) := ev.got hR.1 16 82 _ rfl rfl d16
                  clear hde ev hd HB
                  go_simp
                  exact hK _ _ ⟨hR.1.step (.inr rfl), hR.2⟩
                refine Reg.Steps.cons (k' := 19) rfl ?_ ?_
                · intro D vals a W hR hd hde ev K' hK
                  have HB := hR.2
                  have dg := Reg.dep hde 15 rfl
                  have xg : a.tmps[81]? = some (.bool false) := ev.got hR.1 15 81 _ rfl rfl dg
                  rw [if_pos (Reg.wanted_of rfl (Reg.yielded_of (t := 81) rfl xg))]
                  have d17 := Reg.dep hde 17 rfl
                  have x83 : a.tmps[83]? = some (.pointer (some ⟨PB, 0, none⟩)) := ev.got hR.1 17 83 _ rfl rfl d17
                  clear hde ev hd HB
                  go_simp
                  exact hK _ _ ⟨hR.1.step (.inr rfl), hR.2⟩
                refine Reg.Steps.cons (k' := 20) rfl ?_ ?_
                · intro D vals a W hR hd hde ev K' hK
                  have HB := hR.2
                  have dg := Reg.dep hde 15 rfl
                  have xg : a.tmps[81]? = some (.bool false) := ev.got hR.1 15 81 _ rfl rfl dg
                  rw [if_pos (Reg.wanted_of rfl (Reg.yielded_of (t := 81) rfl xg))]
                  have d18 := Reg.dep hde 18 rfl
                  have x84 : a.tmps[84]? = some (.pointer (some ⟨PB, 0, none⟩)) := ev.got hR.1 18 84 _ rfl rfl d18
                  have q := (HPSW.out W (HB2V.out.trans (HB.mono HB2V.out.size))).pb.cell 0
                  clear hde ev hd HB
                  go_simp
                  exact hK _ _ ⟨hR.1.step (.inr rfl), hR.2⟩
                refine Reg.Steps.cons (k' := 21) rfl ?_ ?_
                · intro D vals a W hR hd hde ev K' hK
                  have HB := hR.2
                  have dg := Reg.dep hde 15 rfl
                  have xg : a.tmps[81]? = some (.bool false) := ev.got hR.1 15 81 _ rfl rfl dg
                  rw [if_pos (Reg.wanted_of rfl (Reg.yielded_of (t := 81) rfl xg))]
                  have x10 : a.tmps[10]? = some (.pointer (some ⟨gT, 0, none⟩)) := (ev.out 10 (by kernel_rfl)).trans rfl
                  have kt := HKT.out.below HB HKT.out.lt
                  have q0 := kt.cell 0
                  have q1 := kt.cell 1
                  have q2 := kt.cell 2
                  have q3 := kt.cell 3
                  have q4 := kt.cell 4
                  have q5 := kt.cell 5
                  clear kt
                  clear hde ev hd HB
                  go_simp
                  exact hK _ _ ⟨hR.1.step (.inr rfl), hR.2⟩
                refine Reg.Steps.cons (k' := 22) rfl ?_ ?_
                · intro D vals a W hR hd hde ev K' hK
                  have HB := hR.2
                  have dg := Reg.dep hde 15 rfl
                  have xg : a.tmps[81]? = some (.bool false) := ev.got hR.1 15 81 _ rfl rfl dg
                  rw [if_pos (Reg.wanted_of rfl (Reg.yielded_of (t := 81) rfl xg))]
                  have x9 : a.tmps[9]? = some (.pointer (some ⟨gV, 0, none⟩)) := (ev.out 9 (by kernel_rfl)).trans rfl
                  clear hde ev hd HB
                  go_simp
                  exact hK _ _ ⟨hR.1.step (.inr rfl), hR.2⟩
                refine Reg.Steps.cons (k' := 23) rfl ?_ ?_
                · intro D vals a W hR hd hde ev K' hK
                  have HB := hR.2
                  have dg := Reg.dep hde 15 rfl
                  have xg : a.tmps[81]? = some (.bool false) := ev.got hR.1 15 81 _ rfl rfl dg
                  rw [if_pos (Reg.wanted_of rfl (Reg.yielded_of (t := 81) rfl xg))]
                  have d21 := Reg.dep hde 21 rfl
                  have x87 : a.tmps[87]? = some (.pointer (some ⟨gV, 1, none⟩)) := ev.got hR.1 21 87 _ rfl rfl d21
                  have q := (HKV.out.below HB HKV.out.lt).cell 1
                  clear hde ev hd HB
                  go_simp
                  exact hK _ _ ⟨hR.1.step (.inr rfl), hR.2⟩
                refine Reg.Steps.cons (k' := 24) rfl ?_ ?_
                · intro D vals a W hR hd hde ev K' hK
                  have HB := hR.2
                  have dg := Reg.dep hde 15 rfl
                  have xg : a.tmps[81]? = some (.bool false) := ev.got hR.1 15 81 _ rfl rfl dg
                  rw [if_pos (Reg.wanted_of rfl (Reg.yielded_of (t := 81) rfl xg))]
                  have d19 := Reg.dep hde 19 rfl
                  have x85 : a.tmps[85]? = some (.pointer (some ⟨P, 0, none⟩)) := ev.got hR.1 19 85 _ rfl rfl d19
                  have d20 := Reg.dep hde 20 rfl
                  have x86 : a.tmps[86]? = some (.agg #[.int .u64 0, .int .u64 (ta : Int), .int .u64 (tb : Int), .int .i64 0, .int .i64 0, .slice none 0 0]) := ev.got hR.1 20 86 _ rfl rfl d20
                  have d22 := Reg.dep hde 22 rfl
                  have x88 : a.tmps[88]? = some (.int .u64 (tb : Int)) := ev.got hR.1 22 88 _ rfl rfl d22
                  have CC := Lib.hid (CD3.out W (HB2V.out.trans (HB.mono HB2V.out.size)))
                  have HR1 := Lib.hid hR
                  clear hde ev hd HB hR
                  go_simp
                  refine CC.out.mono ?_
                  rintro e W1 ⟨rfl, hb⟩
                  exact hK _ _ ⟨HR1.out.1.step (.inr rfl), HR1.out.2.trans (hb.mono HR1.out.2.size)⟩
                refine Reg.Steps.cons (k' := 25) rfl ?_ ?_
                · intro D vals a W hR hd hde ev K' hK
                  have HB := hR.2
                  have dg := Reg.dep hde 15 rfl
                  have xg : a.tmps[81]? = some (.bool false) := ev.got hR.1 15 81 _ rfl rfl dg
                  rw [if_pos (Reg.wanted_of rfl (Reg.yielded_of (t := 81) rfl xg))]
                  have x5 : a.tmps[5]? = some (.pointer (some ⟨PB, 0, none⟩)) := (ev.out 5 (by kernel_rfl)).trans rfl
                  clear hde ev hd HB
                  go_simp
                  exact hK _ _ ⟨hR.1.step (.inr rfl), hR.2⟩
                refine Reg.Steps.cons (k' := 26) rfl ?_ ?_
                · intro D vals a W hR hd hde ev K' hK
                  have HB := hR.2
                  have dg := Reg.dep hde 15 rfl
                  have xg : a.tmps[81]? = some (.bool false) := ev.got hR.1 15 81 _ rfl rfl dg
                  rw [if_pos (Reg.wanted_of rfl (Reg.yielded_of (t := 81) rfl xg))]
                  have d24 := Reg.dep hde 24 rfl
                  have x90 : a.tmps[90]? = some (.pointer (some ⟨PB, 0, none⟩)) := ev.got hR.1 24 90 _ rfl rfl d24
                  clear hde ev hd HB
                  go_simp
                  exact hK _ _ ⟨hR.1.step (.inr rfl), hR.2⟩
                refine Reg.Steps.cons (k' := 27) rfl ?_ ?_
                · intro D vals a W hR hd hde ev K' hK
                  have HB := hR.2
                  have dg := Reg.dep hde 15 rfl
                  have xg : a.tmps[81]? = some (.bool false) := ev.got hR.1 15 81 _ rfl rfl dg
                  rw [if_pos (Reg.wanted_of rfl (Reg.yielded_of (t := 81) rfl xg))]
                  have d25 := Reg.dep hde 25 rfl
                  have x91 : a.tmps[91]? = some (.pointer (some ⟨PB, 0, none⟩)) := ev.got hR.1 25 91 _ rfl rfl d25
                  clear hde ev hd HB
                  go_simp
                  exact hK _ _ ⟨hR.1.step (.inr rfl), hR.2⟩
                refine Reg.Steps.cons (k' := 28) rfl ?_ ?_
                · intro D vals a W hR hd hde ev K' hK
                  have HB := hR.2
                  have dg := Reg.dep hde 15 rfl
                  have xg : a.tmps[81]? = some (.bool false) := ev.got hR.1 15 81 _ rfl rfl dg
                  rw [if_pos (Reg.wanted_of rfl (Reg.yielded_of (t := 81) rfl xg))]
                  have d26 := Reg.dep hde 26 rfl
                  have x92 : a.tmps[92]? = some (.pointer (some ⟨PB, 1, none⟩)) := ev.got hR.1 26 92 _ rfl rfl d26
                  have q := (HPSW.out W (HB2V.out.trans (HB.mono HB2V.out.size))).pb.cell 1
                  clear hde ev hd HB
                  go_simp
                  exact hK _ _ ⟨hR.1.step (.inr rfl), hR.2⟩
                refine Reg.Steps.cons (k' := 29) rfl ?_ ?_
                · intro D vals a W hR hd hde ev K' hK
                  have HB := hR.2
                  have dg := Reg.dep hde 15 rfl
                  have xg : a.tmps[81]? = some (.bool false) := ev.got hR.1 15 81 _ rfl rfl dg
                  rw [if_pos (Reg.wanted_of rfl (Reg.yielded_of (t := 81) rfl xg))]
                  have x10 : a.tmps[10]? = some (.pointer (some ⟨gT, 0, none⟩)) := (ev.out 10 (by kernel_rfl)).trans rfl
                  have kt := HKT.out.below HB HKT.out.lt
                  have q0 := kt.cell 0
                  have q1 := kt.cell 1
                  have q2 := kt.cell 2
                  have q3 := kt.cell 3
                  have q4 := kt.cell 4
                  have q5 := kt.cell 5
                  clear kt
                  clear hde ev hd HB
                  go_simp
                  exact hK _ _ ⟨hR.1.step (.inr rfl), hR.2⟩
                refine Reg.Steps.cons (k' := 30) rfl ?_ ?_
                · intro D vals a W hR hd hde ev K' hK
                  have HB := hR.2
                  have dg := Reg.dep hde 15 rfl
                  have xg : a.tmps[81]? = some (.bool false) := ev.got hR.1 15 81 _ rfl rfl dg
                  rw [if_pos (Reg.wanted_of rfl (Reg.yielded_of (t := 81) rfl xg))]
                  have x9 : a.tmps[9]? = some (.pointer (some ⟨gV, 0, none⟩)) := (ev.out 9 (by kernel_rfl)).trans rfl
                  clear hde ev hd HB
                  go_simp
                  exact hK _ _ ⟨hR.1.step (.inr rfl), hR.2⟩
                refine Reg.Steps.cons (k' := 31) rfl ?_ ?_
                · intro D vals a W hR hd hde ev K' hK
                  have HB := hR.2
                  have dg := Reg.dep hde 15 rfl
                  have xg : a.tmps[81]? = some (.bool false) := ev.got hR.1 15 81 _ rfl rfl dg
                  rw [if_pos (Reg.wanted_of rfl (Reg.yielded_of (t := 81) rfl xg))]
                  have d29 := Reg.dep hde 29 rfl
                  have x95 : a.tmps[95]? = some (.pointer (some ⟨gV, 1, none⟩)) := ev.got hR.1 29 95 _ rfl rfl d29
                  have q := (HKV.out.below HB HKV.out.lt).cell 1
                  clear hde ev hd HB
                  go_simp
                  exact hK _ _ ⟨hR.1.step (.inr rfl), hR.2⟩
                refine Reg.Steps.cons (k' := 32) rfl ?_ ?_
                · intro D vals a W hR hd hde ev K' hK
                  have HB := hR.2
                  have dg := Reg.dep hde 15 rfl
                  have xg : a.tmps[81]? = some (.bool false) := ev.got hR.1 15 81 _ rfl rfl dg
                  rw [if_pos (Reg.wanted_of rfl (Reg.yielded_of (t := 81) rfl xg))]
                  have d27 := Reg.dep hde 27 rfl
                  have x93 : a.tmps[93]? = some (.pointer (some ⟨Q, 0, none⟩)) := ev.got hR.1 27 93 _ rfl rfl d27
                  have d28 := Reg.dep hde 28 rfl
                  have x94 : a.tmps[94]? = some (.agg #[.int .u64 0, .int .u64 (ta : Int), .int .u64 (tb : Int), .int .i64 0, .int .i64 0, .slice none 0 0]) := ev.got hR.1 28 94 _ rfl rfl d28
                  have d30 := Reg.dep hde 30 rfl
                  have x96 : a.tmps[96]? = some (.int .u64 (tb : Int)) := ev.got hR.1 30 96 _ rfl rfl d30
                  have CC := Lib.hid (CD4.out W (HB2V.out.trans (HB.mono HB2V.out.size)))
                  have HR1 := Lib.hid hR
                  clear hde ev hd HB hR
                  go_simp
                  refine CC.out.mono ?_
                  rintro e W1 ⟨rfl, hb⟩
                  exact hK _ _ ⟨HR1.out.1.step (.inr rfl), HR1.out.2.trans (hb.mono HR1.out.2.size)⟩
                refine Reg.Steps.cons (k' := 33) rfl ?_ ?_
                · intro D vals a W hR hd hde ev K' hK
                  have HB := hR.2
                  have dg := Reg.dep hde 15 rfl
                  have xg : a.tmps[81]? = some (.bool false) := ev.got hR.1 15 81 _ rfl rfl dg
                  rw [if_pos (Reg.wanted_of rfl (Reg.yielded_of (t := 81) rfl xg))]
                  have d23 := Reg.dep hde 23 rfl
                  have x89 : a.tmps[89]? = some (.bool de) := ev.got hR.1 23 89 _ rfl rfl d23
                  have d31 := Reg.dep hde 31 rfl
                  have x97 : a.tmps[97]? = some (.bool de) := ev.got hR.1 31 97 _ rfl rfl d31
                  clear hde ev hd HB
                  go_simp
                  exact hK _ _ ⟨hR.1.step (.inr rfl), hR.2⟩
                refine Reg.Steps.cons (k' := 34) rfl ?_ ?_
                · intro D vals a W hR hd hde ev K' hK
                  have HB := hR.2
                  have d15 := Reg.dep hde 15 rfl
                  have x81 : a.tmps[81]? = some (.bool false) := ev.got hR.1 15 81 _ rfl rfl d15
                  have d32 := Reg.dep hde 32 rfl
                  have x98 : a.tmps[98]? = some (.bool false) := ev.got hR.1 32 98 _ rfl rfl d32
                  clear hde ev hd HB
                  go_simp
                  exact hK _ _ ⟨hR.1.step (.inr rfl), hR.2⟩
                exact Reg.Steps.nil
              · intro D vals W2 hD hR
                have hB2 := hR.2
                have ev33 := hR.1 33 _ rfl (hD 33 (by decide))
                clear hR hD
                simp only [Reg.fin, Act.put, List.setIfInBounds_toArray, List.set_cons_zero, List.set_cons_succ, ev33]
                clear ev33
                generalize vals 0 = z0; generalize vals 1 = z1; generalize vals 2 = z2; generalize vals 3 = z3; generalize vals 4 = z4; generalize vals 5 = z5; generalize vals 6 = z6; generalize vals 7 = z7; generalize vals 8 = z8; generalize vals 9 = z9; generalize vals 10 = z10; generalize vals 11 = z11; generalize vals 12 = z12; generalize vals 13 = z13; generalize vals 14 = z14; generalize vals 15 = z15; generalize vals 16 = z16; generalize vals 17 = z17; generalize vals 18 = z18; generalize vals 19 = z19; generalize vals 20 = z20; generalize vals 21 = z21; generalize vals 22 = z22; generalize vals 23 = z23; generalize vals 24 = z24; generalize vals 25 = z25; generalize vals 26 = z26; generalize vals 27 = z27; generalize vals 28 = z28; generalize vals 29 = z29; generalize vals 30 = z30; generalize vals 31 = z31; generalize vals 32 = z32
                clear vals
                have HB2W := Lib.hid (HB2V.out.trans (hB2.mono HB2V.out.size))
                have HKT4 := Lib.hid (HKT.out.below hB2 HKT.out.lt)
                have HKV4 := Lib.hid (HKV.out.below hB2 HKV.out.lt)
                obtain ⟨W4, hW4⟩ : ∃ W4, W4 = W2 := ⟨_, rfl⟩
                rw [← hW4] at HB2W HKT4 HKV4 ⊢
                clear hW4 hB2 W2 HKT HKV HB2V
                have q2 := (HPSW.out W4 HB2W.out).pb.cell 2
                rw [HP.out] at q2
                simp only [List.getElem?_toArray, List.getElem?_cons_zero, List.getElem?_cons_succ] at q2
                go_wp2_with fail
                clear q2
                go_loopw [105] (fun i wi => ∃ k : Nat, k ≤ p ∧ i = .int .i64 k ∧ Below W4.heap.size W4 wi) (fun i _ => p - (intOf i).toNat)
                case atStart => exact ⟨0, by omega, rfl, Below.refl _ _⟩
                case round =>
                  obtain ⟨k, hk, rfl, hbi⟩ := hrel
                  have HBI := Lib.hid hbi
                  clear hbi
                  by_cases hkp : k < p
                  · have hkp' : (k : Int) < p := by omega
                    obtain ⟨sp, hsp⟩ : ∃ sp, sl[k]? = some sp := ⟨_, List.getElem?_eq_getElem (by rw [HP.out]; exact hkp)⟩
                    obtain ⟨gA, hgA⟩ : ∃ gA, A1 = some ⟨gA, 0, none⟩ := by
                      obtain ⟨g, cap, e, _⟩ := World.ownsRow.form HPS.out.oa (by rw [HP.out]; omega)
                      injection e with e1
                      exact ⟨g, e1⟩
                    subst hgA
                    obtain ⟨gB, hgB⟩ : ∃ gB, B1 = some ⟨gB, 0, none⟩ := by
                      obtain ⟨g, cap, e, _⟩ := World.ownsRow.form HPS.out.ob (by rw [HP.out]; omega)
                      injection e with e1
                      exact ⟨g, e1⟩
                    subst hgB
                    obtain ⟨ad3, hA3, y0, y1, y2, y3⟩ := cas_cells HCA.out (HB2W.out.trans (HBI.out.mono HB2W.out.size)) hsp HP.out
                    injection hA3 with hA3
                    subst hA3
                    simp only [add_flat] at y0 y1 y2 y3
                    have HCB0 : Hid (∀ W, Below w2.heap.size w2 W → W.cell? ⟨gB, k * 3, none⟩ = some (.int .u64 (sp.own : Int)) ∧ W.cell? ⟨gB, k * 3 + 1, none⟩ = some (.int .u64 (sp.xmax : Int)) ∧ W.cell? ⟨gB, k * 3 + 2, none⟩ = some (.slice sp.B sp.run.length sp.d)) := Lib.hid (fun W h => by
                      obtain ⟨ad4, hA4, z0, z1, z2⟩ := cbs_cells HCBL.out h hsp HP.out
                      injection hA4 with hA4
                      subst hA4
                      simp only [add_flat] at z0 z1 z2
                      exact ⟨z0, z1, z2⟩)
                    have HSPM := Lib.hid (List.mem_of_getElem? hsp)
                    clear hsp
                    obtain ⟨ow, xm, xx, run, RA, rc, RB, rd⟩ := sp
                    obtain ⟨rn, hrn⟩ : ∃ rn, run.length = rn := ⟨_, rfl⟩
                    have HCB : Hid (∀ W, Below w2.heap.size w2 W → W.cell? ⟨gB, k * 3, none⟩ = some (.int .u64 (ow : Int)) ∧ W.cell? ⟨gB, k * 3 + 1, none⟩ = some (.int .u64 (xx : Int)) ∧ W.cell? ⟨gB, k * 3 + 2, none⟩ = some (.slice RB rn rd)) := Lib.hid (by rw [← hrn]; exact HCB0.out)
                    obtain ⟨b1, hb1⟩ : ∃ b1, seesB 1 S ow xx run ta = b1 := ⟨_, rfl⟩
                    obtain ⟨b2, hb2⟩ : ∃ b2, visB 1 S ow xx run ta tb = b2 := ⟨_, rfl⟩
                    obtain ⟨fr, hfr⟩ : ∃ fr, freeE 1 S ow xx run ta tb = fr := ⟨_, rfl⟩
                    have CS1 : Hid (∀ W, Below w2.heap.size w2 W → Calls Try.prog 19 #[.pointer (some ⟨P, 0, none⟩), .agg #[.int .u64 (ow : Int), .int .u64 (xm : Int), .int .u64 (xx : Int), .slice RA rn rc], .int .u64 (ta : Int)] W fun e w' => e = .returned (.bool b1) ∧ Below W.heap.size W w') := Lib.hid (fun W h => by
                      have hps := HPSW.out W h
                      obtain ⟨F, hal⟩ := hps.ap.al
                      have := sees_any hal hps.ok (own := ow) (xmin := xm) (xmax := xx) (hps.sp _ HSPM.out).1.a HTA.out.1
                      rw [← hb1, ← hrn]
                      exact this)
                    have CS2 : Hid (∀ W, Below w2.heap.size w2 W → Calls Try.prog 20 #[.pointer (some ⟨Q, 0, none⟩), .agg #[.int .u64 (ow : Int), .int .u64 (xx : Int), .slice RB rn rd], .int .u64 (ta : Int)] W fun e w' => e = .returned (.bool b1) ∧ Below W.heap.size W w') := Lib.hid (fun W h => by
                      have hps := HPSW.out W h
                      obtain ⟨G, hrl⟩ := hps.ap.rl
                      have := rsees_any hrl (own := ow) (xmax := xx) (hps.sp _ HSPM.out).1.b HTA.out.1
                      rw [← hb1, ← hrn]
                      exact this)
                    have CV1 : Hid (∀ W, Below w2.heap.size w2 W → Calls Try.prog 21 #[.pointer (some ⟨P, 0, none⟩), .agg #[.int .u64 (ow : Int), .int .u64 (xm : Int), .int .u64 (xx : Int), .slice RA rn rc], .agg #[.int .u64 0, .int .u64 (ta : Int), .int .u64 (tb : Int), .int .i64 0, .int .i64 0, .slice none 0 0]] W fun e w' => e = .returned (.bool b2) ∧ Below W.heap.size W w') := Lib.hid (fun W h => by
                      have hps := HPSW.out W h
                      obtain ⟨F, hal⟩ := hps.ap.al
                      have := visible_any hal hps.ok (own := ow) (xmin := xm) (xmax := xx) (hps.sp _ HSPM.out).1.a HTA.out.1 HTA.out.2
                      rw [← hb2, ← hrn]
                      exact this)
                    have CV2 : Hid (∀ W, Below w2.heap.size w2 W → Calls Try.prog 22 #[.pointer (some ⟨Q, 0, none⟩), .agg #[.int .u64 (ow : Int), .int .u64 (xx : Int), .slice RB rn rd], .agg #[.int .u64 0, .int .u64 (ta : Int), .int .u64 (tb : Int), .int .i64 0, .int .i64 0, .slice none 0 0]] W fun e w' => e = .returned (.bool b2) ∧ Below W.heap.size W w') := Lib.hid (fun W h => by
                      have hps := HPSW.out W h
                      obtain ⟨G, hrl⟩ := hps.ap.rl
                      have := rvisible_any hrl (own := ow) (xmax := xx) (hps.sp _ HSPM.out).1.b HTA.out.1 HTA.out.2
                      rw [← hb2, ← hrn]
                      exact this)
                    have CF1 : Hid (∀ W, Below w2.heap.size w2 W → Calls Try.prog 23 #[.pointer (some ⟨P, 0, none⟩), .agg #[.int .u64 (ow : Int), .int .u64 (xm : Int), .int .u64 (xx : Int), .slice RA rn rc], .agg #[.int .u64 0, .int .u64 (ta : Int), .int .u64 (tb : Int), .int .i64 0, .int .i64 0, .slice none 0 0]] W fun e w' => e = .returned (.int .i64 fr) ∧ Below W.heap.size W w') := Lib.hid (fun W h => by
                      have hps := HPSW.out W h
                      obtain ⟨F, hal⟩ := hps.ap.al
                      have := free_any hal hps.ok (own := ow) (xmin := xm) (xmax := xx) (hps.sp _ HSPM.out).1.a HTA.out.1 HTA.out.2
                      rw [← hfr, ← hrn]
                      exact this)
                    have CF2 : Hid (∀ W, Below w2.heap.size w2 W → Calls Try.prog 24 #[.pointer (some ⟨Q, 0, none⟩), .agg #[.int .u64 (ow : Int), .int .u64 (xx : Int), .slice RB rn rd], .agg #[.int .u64 0, .int .u64 (ta : Int), .int .u64 (tb : Int), .int .i64 0, .int .i64 0, .slice none 0 0]] W fun e w' => e = .returned (.int .i64 fr) ∧ Below W.heap.size W w') := Lib.hid (fun W h => by
                      have hps := HPSW.out W h
                      obtain ⟨G, hrl⟩ := hps.ap.rl
                      have := rfree_any hrl (own := ow) (xmax := xx) (hps.sp _ HSPM.out).1.b HTA.out.1 HTA.out.2
                      rw [← hfr, ← hrn]
                      exact this)
                    simp only [hrn] at y3
                    clear hb1 hb2 hfr hrn HSPM HCB0
                    go_wp2_with fail
                    clear y0 y1 y2 y3
                    have HB6 : Hid (Below W4.heap.size W4 (wr.alloc (.cells #[.int .u64 (ow : Int), .int .u64 (xm : Int), .int .u64 (xx : Int), .slice RA rn rc] 48))) := Lib.hid (HBI.out.alloc HBI.out.size _)
                    have HKS : Hid (Blk (wr.alloc (.cells #[.int .u64 (ow : Int), .int .u64 (xm : Int), .int .u64 (xx : Int), .slice RA rn rc] 48)) wr.heap.size 48 #[.int .u64 (ow : Int), .int .u64 (xm : Int), .int .u64 (xx : Int), .slice RA rn rc]) := Lib.hid (Blk.new _ _ _)
                    generalize (wr.alloc (.cells #[.int .u64 (ow : Int), .int .u64 (xm : Int), .int .u64 (xx : Int), .slice RA rn rc] 48)) = V at *
                    generalize wr.heap.size = gS at *
                    have HKT := Lib.hid (HKT4.out.below HB6.out HKT4.out.lt)
                    have HKV := Lib.hid (HKV4.out.below HB6.out HKV4.out.lt)
                    have HB2V := Lib.hid (HB2W.out.trans (HB6.out.mono HB2W.out.size))
                    refine Reg.wp_region_inv_lit (by kernel_rfl) (by kernel_rfl) (fun D vals W => Reg.Fx (fun k9 => ([some (.pointer (some ⟨PB, 0, none⟩)), some (.pointer (some ⟨PB, 0, none⟩)), some (.pointer (some ⟨PB, 0, none⟩)), some (.pointer (some ⟨P, 0, none⟩)), some (.agg #[.int .u64 (ow : Int), .int .u64 (xm : Int), .int .u64 (xx : Int), .slice RA rn rc]), some (.pointer (some ⟨gV, 0, none⟩)), some (.int .u64 (ta : Int)), some (.bool b1), some (.pointer (some ⟨PB, 0, none⟩)), some (.pointer (some ⟨PB, 0, none⟩)), some (.pointer (some ⟨PB, 1, none⟩)), some (.pointer (some ⟨Q, 0, none⟩)), some (.pointer (some ⟨PB, 0, none⟩)), some (.pointer (some ⟨PB, 0, none⟩)), some (.pointer (some ⟨PB, 3, none⟩)), some (.slice (some ⟨gB, 0, none⟩) p d1), some (.int .i64 (k : Int)), some (.pointer (some ⟨gB, k * 3, none⟩)), some (.agg #[.int .u64 (ow : Int), .int .u64 (xx : Int), .slice RB rn rd]), some (.pointer (some ⟨gV, 0, none⟩)), some (.int .u64 (ta : Int)), some (.bool b1), some (.bool false), some (.bool false), some (.pointer (some ⟨PB, 0, none⟩)), some (.pointer (some ⟨PB, 0, none⟩)), some (.pointer (some ⟨PB, 0, none⟩)), some (.pointer (some ⟨P, 0, none⟩)), some (.agg #[.int .u64 (ow : Int), .int .u64 (xm : Int), .int .u64 (xx : Int), .slice RA rn rc]), some (.agg #[.int .u64 0, .int .u64 (ta : Int), .int .u64 (tb : Int), .int .i64 0, .int .i64 0, .slice none 0 0]), some (.bool b2), some (.pointer (some ⟨PB, 0, none⟩)), some (.pointer (some ⟨PB, 0, none⟩)), some (.pointer (some ⟨PB, 1, none⟩)), some (.pointer (some ⟨Q, 0, none⟩)), some (.pointer (some ⟨PB, 0, none⟩)), some (.pointer (some ⟨PB, 0, none⟩)), some (.pointer (some ⟨PB, 3, none⟩)), some (.slice (some ⟨gB, 0, none⟩) p d1), some (.int .i64 (k : Int)), some (.pointer (some ⟨gB, k * 3, none⟩)), some (.agg #[.int .u64 (ow : Int), .int .u64 (xx : Int), .slice RB rn rd]), some (.agg #[.int .u64 0, .int .u64 (ta : Int), .int .u64 (tb : Int), .int .i64 0, .int .i64 0, .slice none 0 0]), some (.bool b2), some (.bool false), some (.bool false), some (.bool false), some (.pointer (some ⟨PB, 0, none⟩)), some (.pointer (some ⟨PB, 0, none⟩)), some (.pointer (some ⟨PB, 0, none⟩)), some (.pointer (some ⟨P, 0, none⟩)), some (.agg #[.int .u64 (ow : Int), .int .u64 (xm : Int), .int .u64 (xx : Int), .slice RA rn rc]), some (.agg #[.int .u64 0, .int .u64 (ta : Int), .int .u64 (tb : Int), .int .i64 0, .int .i64 0, .slice none 0 0]), some (.int .i64 fr), some (.pointer (some ⟨PB, 0, none⟩)), some (.pointer (some ⟨PB, 0, none⟩)), some (.pointer (some ⟨PB, 1, none⟩)), some (.pointer (some ⟨Q, 0, none⟩)), some (.pointer (some ⟨PB, 0, none⟩)), some (.pointer (some ⟨PB, 0, none⟩)), some (.pointer (some ⟨PB, 3, none⟩)), some (.slice (some ⟨gB, 0, none⟩) p d1), some (.int .i64 (k : Int)), some (.pointer (some ⟨gB, k * 3, none⟩)), some (.agg #[.int .u64 (ow : Int), .int .u64 (xx : Int), .slice RB rn rd]), some (.agg #[.int .u64 0, .int .u64 (ta : Int), .int .u64 (tb : Int), .int .i64 0, .int .i64 0, .slice none 0 0]), some (.int .i64 fr), some (.bool false), some (.bool false)] : List (Option Value)).getD k9 none) D vals ∧ Below V.heap.size V W) ⟨Reg.Fx.init _ _, ⟨rfl, rfl, rfl, Nat.le_refl _, fun _ _ => rfl⟩⟩ (fun Q' => ?_) ?_
                    · refine Reg.Steps.cons (k' := 1) rfl ?_ ?_
                      · intro D vals a W hR hd hde ev K' hK
                        have HB := hR.2
                        have x5 : a.tmps[5]? = some (.pointer (some ⟨PB, 0, none⟩)) := (ev.out 5 (by kernel_rfl)).trans rfl
                        clear hde ev hd HB
                        go_simp
                        exact hK _ _ ⟨hR.1.step (.inr rfl), hR.2⟩
                      refine Reg.Steps.cons (k' := 2) rfl ?_ ?_
                      · intro D vals a W hR hd hde ev K' hK
                        have HB := hR.2
                        have d0 := Reg.dep hde 0 rfl
                        have x110 : a.tmps[110]? = some (.pointer (some ⟨PB, 0, none⟩)) := ev.got hR.1 0 110 _ rfl rfl d0
                        clear hde ev hd HB
                        go_simp
                        exact hK _ _ ⟨hR.1.step (.inr rfl), hR.2⟩
                      refine Reg.Steps.cons (k' := 3) rfl ?_ ?_
                      · intro D vals a W hR hd hde ev K' hK
                        have HB := hR.2
                        have d1 := Reg.dep hde 1 rfl
                        have x111 : a.tmps[111]? = some (.pointer (some ⟨PB, 0, none⟩)) := ev.got hR.1 1 111 _ rfl rfl d1
                        clear hde ev hd HB
                        go_simp
                        exact hK _ _ ⟨hR.1.step (.inr rfl), hR.2⟩
                      refine Reg.Steps.cons (k' := 4) rfl ?_ ?_
                      · intro D vals a W hR hd hde ev K' hK
                        have HB := hR.2
                        have d2 := Reg.dep hde 2 rfl
                        have x112 : a.tmps[112]? = some (.pointer (some ⟨PB, 0, none⟩)) := ev.got hR.1 2 112 _ rfl rfl d2
                        have q := (HPSW.out W (HB2V.out.trans (HB.mono HB2V.out.size))).pb.cell 0
                        clear hde ev hd HB
                        go_simp
                        exact hK _ _ ⟨hR.1.step (.inr rfl), hR.2⟩
                      refine Reg.Steps.cons (k' := 5) rfl ?_ ?_
                      · intro D vals a W hR hd hde ev K' hK
                        have HB := hR.2
                        have x12 : a.tmps[12]? = some (.pointer (some ⟨gS, 0, none⟩)) := (ev.out 12 (by kernel_rfl)).trans rfl
                        have ks := HKS.out.below HB HKS.out.lt
                        have q0 := ks.cell 0
                        have q1 := ks.cell 1
                        have q2 := ks.cell 2
                        have q3 := ks.cell 3
                        clear ks
                        clear hde ev hd HB
                        go_simp
                        exact hK _ _ ⟨hR.1.step (.inr rfl), hR.2⟩
                      refine Reg.Steps.cons (k' := 6) rfl ?_ ?_
                      · intro D vals a W hR hd hde ev K' hK
                        have HB := hR.2
                        have x9 : a.tmps[9]? = some (.pointer (some ⟨gV, 0, none⟩)) := (ev.out 9 (by kernel_rfl)).trans rfl
                        clear hde ev hd HB
                        go_simp
                        exact hK _ _ ⟨hR.1.step (.inr rfl), hR.2⟩
                      refine Reg.Steps.cons (k' := 7) rfl ?_ ?_
                      · intro D vals a W hR hd hde ev K' hK
                        have HB := hR.2
                        have d5 := Reg.dep hde 5 rfl
                        have x115 : a.tmps[115]? = some (.pointer (some ⟨gV, 0, none⟩)) := ev.got hR.1 5 115 _ rfl rfl d5
                        have q := (HKV.out.below HB HKV.out.lt).cell 0
                        clear hde ev hd HB
                        go_simp
                        exact hK _ _ ⟨hR.1.step (.inr rfl), hR.2⟩
                      refine Reg.Steps.cons (k' := 8) rfl ?_ ?_
                      · intro D vals a W hR hd hde ev K' hK
                        have HB := hR.2
                        have d3 := Reg.dep hde 3 rfl
                        have x113 : a.tmps[113]? = some (.pointer (some ⟨P, 0, none⟩)) := ev.got hR.1 3 113 _ rfl rfl d3
                        have d4 := Reg.dep hde 4 rfl
                        have x114 : a.tmps[114]? = some (.agg #[.int .u64 (ow : Int), .int .u64 (xm : Int), .int .u64 (xx : Int), .slice RA rn rc]) := ev.got hR.1 4 114 _ rfl rfl d4
                        have d6 := Reg.dep hde 6 rfl
                        have x116 : a.tmps[116]? = some (.int .u64 (ta : Int)) := ev.got hR.1 6 116 _ rfl rfl d6
                        have CC := Lib.hid (CS1.out W (HB2V.out.trans (HB.mono HB2V.out.size)))
                        have HR1 := Lib.hid hR
                        clear hde ev hd HB hR
                        go_simp
                        refine CC.out.mono ?_
                        rintro e W1 ⟨rfl, hb⟩
                        exact hK _ _ ⟨HR1.out.1.step (.inr rfl), HR1.out.2.trans (hb.mono HR1.out.2.size)⟩
                      refine Reg.Steps.cons (k' := 9) rfl ?_ ?_
                      · intro D vals a W hR hd hde ev K' hK
                        have HB := hR.2
                        have x5 : a.tmps[5]? = some (.pointer (some ⟨PB, 0, none⟩)) := (ev.out 5 (by kernel_rfl)).trans rfl
                        clear hde ev hd HB
                        go_simp
                        exact hK _ _ ⟨hR.1.step (.inr rfl), hR.2⟩
                      refine Reg.Steps.cons (k' := 10) rfl ?_ ?_
                      · intro D vals a W hR hd hde ev K' hK
                        have HB := hR.2
                        have d8 := Reg.dep hde 8 rfl
                        have x118 : a.tmps[118]? = some (.pointer (some ⟨PB, 0, none⟩)) := ev.got hR.1 8 118 _ rfl rfl d8
                        clear hde ev hd HB
                        go_simp
                        exact hK _ _ ⟨hR.1.step (.inr rfl), hR.2⟩
                      refine Reg.Steps.cons (k' := 11) rfl ?_ ?_
                      · intro D vals a W hR hd hde ev K' hK
                        have HB := hR.2
                        have d9 := Reg.dep hde 9 rfl
                        have x119 : a.tmps[119]? = some (.pointer (some ⟨PB, 0, none⟩)) := ev.got hR.1 9 119 _ rfl rfl d9
                        clear hde ev hd HB
                        go_simp
                        exact hK _ _ ⟨hR.1.step (.inr rfl), hR.2⟩
                      refine Reg.Steps.cons (k' := 12) rfl ?_ ?_
                      · intro D vals a W hR hd hde ev K' hK
                        have HB := hR.2
                        have d10 := Reg.dep hde 10 rfl
                        have x120 : a.tmps[120]? = some (.pointer (some ⟨PB, 1, none⟩)) := ev.got hR.1 10 120 _ rfl rfl d10
                        have q := (HPSW.out W (HB2V.out.trans (HB.mono HB2V.out.size))).pb.cell 1
                        clear hde ev hd HB
                        go_simp
                        exact hK _ _ ⟨hR.1.step (.inr rfl), hR.2⟩
                      refine Reg.Steps.cons (k' := 13) rfl ?_ ?_
                      · intro D vals a W hR hd hde ev K' hK
                        have HB := hR.2
                        have x5 : a.tmps[5]? = some (.pointer (some ⟨PB, 0, none⟩)) := (ev.out 5 (by kernel_rfl)).trans rfl
                        clear hde ev hd HB
                        go_simp
                        exact hK _ _ ⟨hR.1.step (.inr rfl), hR.2⟩
                      refine Reg.Steps.cons (k' := 14) rfl ?_ ?_
                      · intro D vals a W hR hd hde ev K' hK
                        have HB := hR.2
                        have d12 := Reg.dep hde 12 rfl
                        have x122 : a.tmps[122]? = some (.pointer (some ⟨PB, 0, none⟩)) := ev.got hR.1 12 122 _ rfl rfl d12
                        clear hde ev hd HB
                        go_simp
                        exact hK _ _ ⟨hR.1.step (.inr rfl), hR.2⟩
                      refine Reg.Steps.cons (k' := 15) rfl ?_ ?_
                      · intro D vals a W hR hd hde ev K' hK
                        have HB := hR.2
                        have d13 := Reg.dep hde 13 rfl
                        have x123 : a.tmps[123]? = some (.pointer (some ⟨PB, 0, none⟩)) := ev.got hR.1 13 123 _ rfl rfl d13
                        clear hde ev hd HB
                        go_simp
                        exact hK _ _ ⟨hR.1.step (.inr rfl), hR.2⟩
                      refine Reg.Steps.cons (k' := 16) rfl ?_ ?_
                      · intro D vals a W hR hd hde ev K' hK
                        have HB := hR.2
                        have d14 := Reg.dep hde 14 rfl
                        have x124 : a.tmps[124]? = some (.pointer (some ⟨PB, 3, none⟩)) := ev.got hR.1 14 124 _ rfl rfl d14
                        have q := (HPSW.out W (HB2V.out.trans (HB.mono HB2V.out.size))).pb.cell 3
                        rw [HP.out] at q
                        clear hde ev hd HB
                        go_simp
                        exact hK _ _ ⟨hR.1.step (.inr rfl), hR.2⟩
                      refine Reg.Steps.cons (k' := 17) rfl ?_ ?_
                      · intro D vals a W hR hd hde ev K' hK
                        have HB := hR.2
                        have x11 : a.tmps[11]? = some (.int .i64 (k : Int)) := (ev.out 11 (by kernel_rfl)).trans rfl
                        clear hde ev hd HB
                        go_simp
                        exact hK _ _ ⟨hR.1.step (.inr rfl), hR.2⟩
                      refine Reg.Steps.cons (k' := 18) rfl ?_ ?_
                      · intro D vals a W hR hd hde ev K' hK
                        have HB := hR.2
                        have d15 := Reg.dep hde 15 rfl
                        have x125 : a.tmps[125]? = some (.slice (some ⟨gB, 0, none⟩) p d1) := ev.got hR.1 15 125 _ rfl rfl d15
                        have d16 := Reg.dep hde 16 rfl
                        have x126 : a.tmps[126]? = some (.int .i64 (k : Int)) := ev.got hR.1 16 126 _ rfl rfl d16
                        clear hde ev hd HB
                        go_simp
                        exact hK _ _ ⟨hR.1.step (.inr rfl), hR.2⟩
                      refine Reg.Steps.cons (k' := 19) rfl ?_ ?_
                      · intro D vals a W hR hd hde ev K' hK
                        have HB := hR.2
                        have d17 := Reg.dep hde 17 rfl
                        have x127 : a.tmps[127]? = some (.pointer (some ⟨gB, k * 3, none⟩)) := ev.got hR.1 17 127 _ rfl rfl d17
                        have kb := HCB.out W (HB2V.out.trans (HB.mono HB2V.out.size))
                        have q0 := kb.1
                        have q1 := kb.2.1
                        have q2 := kb.2.2
                        clear kb
                        clear hde ev hd HB
                        go_simp
                        exact hK _ _ ⟨hR.1.step (.inr rfl), hR.2⟩
                      refine Reg.Steps.cons (k' := 20) rfl ?_ ?_
                      · intro D vals a W hR hd hde ev K' hK
                        have HB := hR.2
                        have x9 : a.tmps[9]? = some (.pointer (some ⟨gV, 0, none⟩)) := (ev.out 9 (by kernel_rfl)).trans rfl
                        clear hde ev hd HB
                        go_simp
                        exact hK _ _ ⟨hR.1.step (.inr rfl), hR.2⟩
                      refine Reg.Steps.cons (k' := 21) rfl ?_ ?_
                      · intro D vals a W hR hd hde ev K' hK
                        have HB := hR.2
                        have d19 := Reg.dep hde 19 rfl
                        have x129 : a.tmps[129]? = some (.pointer (some ⟨gV, 0, none⟩)) := ev.got hR.1 19 129 _ rfl rfl d19
                        have q := (HKV.out.below HB HKV.out.lt).cell 0
                        clear hde ev hd HB
                        go_simp
                        exact hK _ _ ⟨hR.1.step (.inr rfl), hR.2⟩
                      refine Reg.Steps.cons (k' := 22) rfl ?_ ?_
                      · intro D vals a W hR hd hde ev K' hK
                        have HB := hR.2
                        have d11 := Reg.dep hde 11 rfl
                        have x121 : a.tmps[121]? = some (.pointer (some ⟨Q, 0, none⟩)) := ev.got hR.1 11 121 _ rfl rfl d11
                        have d18 := Reg.dep hde 18 rfl
                        have x128 : a.tmps[128]? = some (.agg #[.int .u64 (ow : Int), .int .u64 (xx : Int), .slice RB rn rd]) := ev.got hR.1 18 128 _ rfl rfl d18
                        have d20 := Reg.dep hde 20 rfl
                        have x130 : a.tmps[130]? = some (.int .u64 (ta : Int)) := ev.got hR.1 20 130 _ rfl rfl d20
                        have CC := Lib.hid (CS2.out W (HB2V.out.trans (HB.mono HB2V.out.size)))
                        have HR1 := Lib.hid hR
                        clear hde ev hd HB hR
                        go_simp
                        refine CC.out.mono ?_
                        rintro e W1 ⟨rfl, hb⟩
                        exact hK _ _ ⟨HR1.out.1.step (.inr rfl), HR1.out.2.trans (hb.mono HR1.out.2.size)⟩
                      refine Reg.Steps.cons (k' := 23) rfl ?_ ?_
                      · intro D vals a W hR hd hde ev K' hK
                        have HB := hR.2
                        have d7 := Reg.dep hde 7 rfl
                        have x117 : a.tmps[117]? = some (.bool b1) := ev.got hR.1 7 117 _ rfl rfl d7
                        have d21 := Reg.dep hde 21 rfl
                        have x131 : a.tmps[131]? = some (.bool b1) := ev.got hR.1 21 131 _ rfl rfl d21
                        clear hde ev hd HB
                        go_simp
                        exact hK _ _ ⟨hR.1.step (.inr rfl), hR.2⟩
                      refine Reg.Steps.cons (k' := 24) rfl ?_ ?_
                      · intro D vals a W hR hd hde ev K' hK
                        have HB := hR.2
                        have d22 := Reg.dep hde 22 rfl
                        have x132 : a.tmps[132]? = some (.bool false) := ev.got hR.1 22 132 _ rfl rfl d22
                        clear hde ev hd HB
                        go_simp
                        exact hK _ _ ⟨hR.1.step (.inr rfl), hR.2⟩
                      refine Reg.Steps.cons (k' := 25) rfl ?_ ?_
                      · intro D vals a W hR hd hde ev K' hK
                        have HB := hR.2
                        have dg := Reg.dep hde 23 rfl
                        have xg : a.tmps[133]? = some (.bool false) := ev.got hR.1 23 133 _ rfl rfl dg
                        rw [if_pos (Reg.wanted_of rfl (Reg.yielded_of (t := 133) rfl xg))]
                        have x5 : a.tmps[5]? = some (.pointer (some ⟨PB, 0, none⟩)) := (ev.out 5 (by kernel_rfl)).trans rfl
                        clear hde ev hd HB
                        go_simp
                        exact hK _ _ ⟨hR.1.step (.inr rfl), hR.2⟩
                      refine Reg.Steps.cons (k' := 26) rfl ?_ ?_
                      · intro D vals a W hR hd hde ev K' hK
                        have HB := hR.2
                        have dg := Reg.dep hde 23 rfl
                        have xg : a.tmps[133]? = some (.bool false) := ev.got hR.1 23 133 _ rfl rfl dg
                        rw [if_pos (Reg.wanted_of rfl (Reg.yielded_of (t := 133) rfl xg))]
                        have d24 := Reg.dep hde 24 rfl
                        have x134 : a.tmps[134]? = some (.pointer (some ⟨PB, 0, none⟩)) := ev.got hR.1 24 134 _ rfl rfl d24
                        clear hde ev hd HB
                        go_simp
                        exact hK _ _ ⟨hR.1.step (.inr rfl), hR.2⟩
                      refine Reg.Steps.cons (k' := 27) rfl ?_ ?_
                      · intro D vals a W hR hd hde ev K' hK
                        have HB := hR.2
                        have dg := Reg.dep hde 23 rfl
                        have xg : a.tmps[133]? = some (.bool false) := ev.got hR.1 23 133 _ rfl rfl dg
                        rw [if_pos (Reg.wanted_of rfl (Reg.yielded_of (t := 133) rfl xg))]
                        have d25 := Reg.dep hde 25 rfl
                        have x135 : a.tmps[135]? = some (.pointer (some ⟨PB, 0, none⟩)) := ev.got hR.1 25 135 _ rfl rfl d25
                        clear hde ev hd HB
                        go_simp
                        exact hK _ _ ⟨hR.1.step (.inr rfl), hR.2⟩
                      refine Reg.Steps.cons (k' := 28) rfl ?_ ?_
                      · intro D vals a W hR hd hde ev K' hK
                        have HB := hR.2
                        have dg := Reg.dep hde 23 rfl
                        have xg : a.tmps[133]? = some (.bool false) := ev.got hR.1 23 133 _ rfl rfl dg
                        rw [if_pos (Reg.wanted_of rfl (Reg.yielded_of (t := 133) rfl xg))]
                        have d26 := Reg.dep hde 26 rfl
                        have x136 : a.tmps[136]? = some (.pointer (some ⟨PB, 0, none⟩)) := ev.got hR.1 26 136 _ rfl rfl d26
                        have q := (HPSW.out W (HB2V.out.trans (HB.mono HB2V.out.size))).pb.cell 0
                        clear hde ev hd HB
                        go_simp
                        exact hK _ _ ⟨hR.1.step (.inr rfl), hR.2⟩
                      refine Reg.Steps.cons (k' := 29) rfl ?_ ?_
                      · intro D vals a W hR hd hde ev K' hK
                        have HB := hR.2
                        have dg := Reg.dep hde 23 rfl
                        have xg : a.tmps[133]? = some (.bool false) := ev.got hR.1 23 133 _ rfl rfl dg
                        rw [if_pos (Reg.wanted_of rfl (Reg.yielded_of (t := 133) rfl xg))]
                        have x12 : a.tmps[12]? = some (.pointer (some ⟨gS, 0, none⟩)) := (ev.out 12 (by kernel_rfl)).trans rfl
                        have ks := HKS.out.below HB HKS.out.lt
                        have q0 := ks.cell 0
                        have q1 := ks.cell 1
                        have q2 := ks.cell 2
                        have q3 := ks.cell 3
                        clear ks
                        clear hde ev hd HB
                        go_simp
                        exact hK _ _ ⟨hR.1.step (.inr rfl), hR.2⟩
                      refine Reg.Steps.cons (k' := 30) rfl ?_ ?_
                      · intro D vals a W hR hd hde ev K' hK
                        have HB := hR.2
                        have dg := Reg.dep hde 23 rfl
                        have xg : a.tmps[133]? = some (.bool false) := ev.got hR.1 23 133 _ rfl rfl dg
                        rw [if_pos (Reg.wanted_of rfl (Reg.yielded_of (t := 133) rfl xg))]
                        have x10 : a.tmps[10]? = some (.pointer (some ⟨gT, 0, none⟩)) := (ev.out 10 (by kernel_rfl)).trans rfl
                        have kt := HKT.out.below HB HKT.out.lt
                        have q0 := kt.cell 0
                        have q1 := kt.cell 1
                        have q2 := kt.cell 2
                        have q3 := kt.cell 3
                        have q4 := kt.cell 4
                        have q5 := kt.cell 5
                        clear kt
                        clear hde ev hd HB
                        go_simp
                        exact hK _ _ ⟨hR.1.step (.inr rfl), hR.2⟩
                      refine Reg.Steps.cons (k' := 31) rfl ?_ ?_
                      · intro D vals a W hR hd hde ev K' hK
                        have HB := hR.2
                        have dg := Reg.dep hde 23 rfl
                        have xg : a.tmps[133]? = some (.bool false) := ev.got hR.1 23 133 _ rfl rfl dg
                        rw [if_pos (Reg.wanted_of rfl (Reg.yielded_of (t := 133) rfl xg))]
                        have d27 := Reg.dep hde 27 rfl
                        have x137 : a.tmps[137]? = some (.pointer (some ⟨P, 0, none⟩)) := ev.got hR.1 27 137 _ rfl rfl d27
                        have d28 := Reg.dep hde 28 rfl
                        have x138 : a.tmps[138]? = some (.agg #[.int .u64 (ow : Int), .int .u64 (xm : Int), .int .u64 (xx : Int), .slice RA rn rc]) := ev.got hR.1 28 138 _ rfl rfl d28
                        have d29 := Reg.dep hde 29 rfl
                        have x139 : a.tmps[139]? = some (.agg #[.int .u64 0, .int .u64 (ta : Int), .int .u64 (tb : Int), .int .i64 0, .int .i64 0, .slice none 0 0]) := ev.got hR.1 29 139 _ rfl rfl d29
                        have CC := Lib.hid (CV1.out W (HB2V.out.trans (HB.mono HB2V.out.size)))
                        have HR1 := Lib.hid hR
                        clear hde ev hd HB hR
                        go_simp
                        refine CC.out.mono ?_
                        rintro e W1 ⟨rfl, hb⟩
                        exact hK _ _ ⟨HR1.out.1.step (.inr rfl), HR1.out.2.trans (hb.mono HR1.out.2.size)⟩
                      refine Reg.Steps.cons (k' := 32) rfl ?_ ?_
                      · intro D vals a W hR hd hde ev K' hK
                        have HB := hR.2
                        have dg := Reg.dep hde 23 rfl
                        have xg : a.tmps[133]? = some (.bool false) := ev.got hR.1 23 133 _ rfl rfl dg
                        rw [if_pos (Reg.wanted_of rfl (Reg.yielded_of (t := 133) rfl xg))]
                        have x5 : a.tmps[5]? = some (.pointer (some ⟨PB, 0, none⟩)) := (ev.out 5 (by kernel_rfl)).trans rfl
                        clear hde ev hd HB
                        go_simp
                        exact hK _ _ ⟨hR.1.step (.inr rfl), hR.2⟩
                      refine Reg.Steps.cons (k' := 33) rfl ?_ ?_
                      · intro D vals a W hR hd hde ev K' hK
                        have HB := hR.2
                        have dg := Reg.dep hde 23 rfl
                        have xg : a.tmps[133]? = some (.bool false) := ev.got hR.1 23 133 _ rfl rfl dg
                        rw [if_pos (Reg.wanted_of rfl (Reg.yielded_of (t := 133) rfl xg))]
                        have d31 := Reg.dep hde 31 rfl
                        have x141 : a.tmps[141]? = some (.pointer (some ⟨PB, 0, none⟩)) := ev.got hR.1 31 141 _ rfl rfl d31
                        clear hde ev hd HB
                        go_simp
                        exact hK _ _ ⟨hR.1.step (.inr rfl), hR.2⟩
                      refine Reg.Steps.cons (k' := 34) rfl ?_ ?_
                      · intro D vals a W hR hd hde ev K' hK
                        have HB := hR.2
                        have dg := Reg.dep hde 23 rfl
                        have xg : a.tmps[133]? = some (.bool false) := ev.got hR.1 23 133 _ rfl rfl dg
                        rw [if_pos (Reg.wanted_of rfl (Reg.yielded_of (t := 133) rfl xg))]
                        have d32 := Reg.dep hde 32 rfl
                        have x142 : a.tmps[142]? = some (.pointer (some ⟨PB, 0, none⟩)) := ev.got hR.1 32 142 _ rfl rfl d32
                        clear hde ev hd HB
                        go_simp
                        exact hK _ _ ⟨hR.1.step (.inr rfl), hR.2⟩
                      refine Reg.Steps.cons (k' := 35) rfl ?_ ?_
                      · intro D vals a W hR hd hde ev K' hK
                        have HB := hR.2
                        have dg := Reg.dep hde 23 rfl
                        have xg : a.tmps[133]? = some (.bool false) := ev.got hR.1 23 133 _ rfl rfl dg
                        rw [if_pos (Reg.wanted_of rfl (Reg.yielded_of (t := 133) rfl xg))]
                        have d33 := Reg.dep hde 33 rfl
                        have x143 : a.tmps[143]? = some (.pointer (some ⟨PB, 1, none⟩)) := ev.got hR.1 33 143 _ rfl rfl d33
                        have q := (HPSW.out W (HB2V.out.trans (HB.mono HB2V.out.size))).pb.cell 1
                        clear hde ev hd HB
                        go_simp
                        exact hK _ _ ⟨hR.1.step (.inr rfl), hR.2⟩
                      refine Reg.Steps.cons (k' := 36) rfl ?_ ?_
                      · intro D vals a W hR hd hde ev K' hK
                        have HB := hR.2
                        have dg := Reg.dep hde 23 rfl
                        have xg : a.tmps[133]? = some (.bool false) := ev.got hR.1 23 133 _ rfl rfl dg
                        rw [if_pos (Reg.wanted_of rfl (Reg.yielded_of (t := 133) rfl xg))]
                        have x5 : a.tmps[5]? = some (.pointer (some ⟨PB, 0, none⟩)) := (ev.out 5 (by kernel_rfl)).trans rfl
                        clear hde ev hd HB
                        go_simp
                        exact hK _ _ ⟨hR.1.step (.inr rfl), hR.2⟩
                      refine Reg.Steps.cons (k' := 37) rfl ?_ ?_
                      · intro D vals a W hR hd hde ev K' hK
                        have HB := hR.2
                        have dg := Reg.dep hde 23 rfl
                        have xg : a.tmps[133]? = some (.bool false) := ev.got hR.1 23 133 _ rfl rfl dg
                        rw [if_pos (Reg.wanted_of rfl (Reg.yielded_of (t := 133) rfl xg))]
                        have d35 := Reg.dep hde 35 rfl
                        have x145 : a.tmps[145]? = some (.pointer (some ⟨PB, 0, none⟩)) := ev.got hR.1 35 145 _ rfl rfl d35
                        clear hde ev hd HB
                        go_simp
                        exact hK _ _ ⟨hR.1.step (.inr rfl), hR.2⟩
                      refine Reg.Steps.cons (k' := 38) rfl ?_ ?_
                      · intro D vals a W hR hd hde ev K' hK
                        have HB := hR.2
                        have dg := Reg.dep hde 23 rfl
                        have xg : a.tmps[133]? = some (.bool false) := ev.got hR.1 23 133 _ rfl rfl dg
                        rw [if_pos (Reg.wanted_of rfl (Reg.yielded_of (t := 133) rfl xg))]
                        have d36 := Reg.dep hde 36 rfl
                        have x146 : a.tmps[146]? = some (.pointer (some ⟨PB, 0, none⟩)) := ev.got hR.1 36 146 _ rfl rfl d36
                        clear hde ev hd HB
                        go_simp
                        exact hK _ _ ⟨hR.1.step (.inr rfl), hR.2⟩
                      refine Reg.Steps.cons (k' := 39) rfl ?_ ?_
                      · intro D vals a W hR hd hde ev K' hK
                        have HB := hR.2
                        have dg := Reg.dep hde 23 rfl
                        have xg : a.tmps[133]? = some (.bool false) := ev.got hR.1 23 133 _ rfl rfl dg
                        rw [if_pos (Reg.wanted_of rfl (Reg.yielded_of (t := 133) rfl xg))]
                        have d37 := Reg.dep hde 37 rfl
                        have x147 : a.tmps[147]? = some (.pointer (some ⟨PB, 3, none⟩)) := ev.got hR.1 37 147 _ rfl rfl d37
                        have q := (HPSW.out W (HB2V.out.trans (HB.mono HB2V.out.size))).pb.cell 3
                        rw [HP.out] at q
                        clear hde ev hd HB
                        go_simp
                        exact hK _ _ ⟨hR.1.step (.inr rfl), hR.2⟩
                      refine Reg.Steps.cons (k' := 40) rfl ?_ ?_
                      · intro D vals a W hR hd hde ev K' hK
                        have HB := hR.2
                        have dg := Reg.dep hde 23 rfl
                        have xg : a.tmps[133]? = some (.bool false) := ev.got hR.1 23 133 _ rfl rfl dg
                        rw [if_pos (Reg.wanted_of rfl (Reg.yielded_of (t := 133) rfl xg))]
                        have x11 : a.tmps[11]? = some (.int .i64 (k : Int)) := (ev.out 11 (by kernel_rfl)).trans rfl
                        clear hde ev hd HB
                        go_simp
                        exact hK _ _ ⟨hR.1.step (.inr rfl), hR.2⟩
                      refine Reg.Steps.cons (k' := 41) rfl ?_ ?_
                      · intro D vals a W hR hd hde ev K' hK
                        have HB := hR.2
                        have dg := Reg.dep hde 23 rfl
                        have xg : a.tmps[133]? = some (.bool false) := ev.got hR.1 23 133 _ rfl rfl dg
                        rw [if_pos (Reg.wanted_of rfl (Reg.yielded_of (t := 133) rfl xg))]
                        have d38 := Reg.dep hde 38 rfl
                        have x148 : a.tmps[148]? = some (.slice (some ⟨gB, 0, none⟩) p d1) := ev.got hR.1 38 148 _ rfl rfl d38
                        have d39 := Reg.dep hde 39 rfl
                        have x149 : a.tmps[149]? = some (.int .i64 (k : Int)) := ev.got hR.1 39 149 _ rfl rfl d39
                        clear hde ev hd HB
                        go_simp
                        exact hK _ _ ⟨hR.1.step (.inr rfl), hR.2⟩
                      refine Reg.Steps.cons (k' := 42) rfl ?_ ?_
                      · intro D vals a W hR hd hde ev K' hK
                        have HB := hR.2
                        have dg := Reg.dep hde 23 rfl
                        have xg : a.tmps[133]? = some (.bool false) := ev.got hR.1 23 133 _ rfl rfl dg
                        rw [if_pos (Reg.wanted_of rfl (Reg.yielded_of (t := 133) rfl xg))]
                        have d40 := Reg.dep hde 40 rfl
                        have x150 : a.tmps[150]? = some (.pointer (some ⟨gB, k * 3, none⟩)) := ev.got hR.1 40 150 _ rfl rfl d40
                        have kb := HCB.out W (HB2V.out.trans (HB.mono HB2V.out.size))
                        have q0 := kb.1
                        have q1 := kb.2.1
                        have q2 := kb.2.2
                        clear kb
                        clear hde ev hd HB
                        go_simp
                        exact hK _ _ ⟨hR.1.step (.inr rfl), hR.2⟩
                      refine Reg.Steps.cons (k' := 43) rfl ?_ ?_
                      · intro D vals a W hR hd hde ev K' hK
                        have HB := hR.2
                        have dg := Reg.dep hde 23 rfl
                        have xg : a.tmps[133]? = some (.bool false) := ev.got hR.1 23 133 _ rfl rfl dg
                        rw [if_pos (Reg.wanted_of rfl (Reg.yielded_of (t := 133) rfl xg))]
                        have x10 : a.tmps[10]? = some (.pointer (some ⟨gT, 0, none⟩)) := (ev.out 10 (by kernel_rfl)).trans rfl
                        have kt := HKT.out.below HB HKT.out.lt
                        have q0 := kt.cell 0
                        have q1 := kt.cell 1
                        have q2 := kt.cell 2
                        have q3 := kt.cell 3
                        have q4 := kt.cell 4
                        have q5 := kt.cell 5
                        clear kt
                        clear hde ev hd HB
                        go_simp
                        exact hK _ _ ⟨hR.1.step (.inr rfl), hR.2⟩
                      refine Reg.Steps.cons (k' := 44) rfl ?_ ?_
                      · intro D vals a W hR hd hde ev K' hK
                        have HB := hR.2
                        have dg := Reg.dep hde 23 rfl
                        have xg : a.tmps[133]? = some (.bool false) := ev.got hR.1 23 133 _ rfl rfl dg
                        rw [if_pos (Reg.wanted_of rfl (Reg.yielded_of (t := 133) rfl xg))]
                        have d34 := Reg.dep hde 34 rfl
                        have x144 : a.tmps[144]? = some (.pointer (some ⟨Q, 0, none⟩)) := ev.got hR.1 34 144 _ rfl rfl d34
                        have d41 := Reg.dep hde 41 rfl
                        have x151 : a.tmps[151]? = some (.agg #[.int .u64 (ow : Int), .int .u64 (xx : Int), .slice RB rn rd]) := ev.got hR.1 41 151 _ rfl rfl d41
                        have d42 := Reg.dep hde 42 rfl
                        have x152 : a.tmps[152]? = some (.agg #[.int .u64 0, .int .u64 (ta : Int), .int .u64 (tb : Int), .int .i64 0, .int .i64 0, .slice none 0 0]) := ev.got hR.1 42 152 _ rfl rfl d42
                        have CC := Lib.hid (CV2.out W (HB2V.out.trans (HB.mono HB2V.out.size)))
                        have HR1 := Lib.hid hR
                        clear hde ev hd HB hR
                        go_simp
                        refine CC.out.mono ?_
                        rintro e W1 ⟨rfl, hb⟩
                        exact hK _ _ ⟨HR1.out.1.step (.inr rfl), HR1.out.2.trans (hb.mono HR1.out.2.size)⟩
                      refine Reg.Steps.cons (k' := 45) rfl ?_ ?_
                      · intro D vals a W hR hd hde ev K' hK
                        have HB := hR.2
                        have dg := Reg.dep hde 23 rfl
                        have xg : a.tmps[133]? = some (.bool false) := ev.got hR.1 23 133 _ rfl rfl dg
                        rw [if_pos (Reg.wanted_of rfl (Reg.yielded_of (t := 133) rfl xg))]
                        have d30 := Reg.dep hde 30 rfl
                        have x140 : a.tmps[140]? = some (.bool b2) := ev.got hR.1 30 140 _ rfl rfl d30
                        have d43 := Reg.dep hde 43 rfl
                        have x153 : a.tmps[153]? = some (.bool b2) := ev.got hR.1 43 153 _ rfl rfl d43
                        clear hde ev hd HB
                        go_simp
                        exact hK _ _ ⟨hR.1.step (.inr rfl), hR.2⟩
                      refine Reg.Steps.cons (k' := 46) rfl ?_ ?_
                      · intro D vals a W hR hd hde ev K' hK
                        have HB := hR.2
                        have d23 := Reg.dep hde 23 rfl
                        have x133 : a.tmps[133]? = some (.bool false) := ev.got hR.1 23 133 _ rfl rfl d23
                        have d44 := Reg.dep hde 44 rfl
                        have x154 : a.tmps[154]? = some (.bool false) := ev.got hR.1 44 154 _ rfl rfl d44
                        clear hde ev hd HB
                        go_simp
                        exact hK _ _ ⟨hR.1.step (.inr rfl), hR.2⟩
                      refine Reg.Steps.cons (k' := 47) rfl ?_ ?_
                      · intro D vals a W hR hd hde ev K' hK
                        have HB := hR.2
                        have d45 := Reg.dep hde 45 rfl
                        have x155 : a.tmps[155]? = some (.bool false) := ev.got hR.1 45 155 _ rfl rfl d45
                        clear hde ev hd HB
                        go_simp
                        exact hK _ _ ⟨hR.1.step (.inr rfl), hR.2⟩
                      refine Reg.Steps.cons (k' := 48) rfl ?_ ?_
                      · intro D vals a W hR hd hde ev K' hK
                        have HB := hR.2
                        have dg := Reg.dep hde 46 rfl
                        have xg : a.tmps[156]? = some (.bool false) := ev.got hR.1 46 156 _ rfl rfl dg
                        rw [if_pos (Reg.wanted_of rfl (Reg.yielded_of (t := 156) rfl xg))]
                        have x5 : a.tmps[5]? = some (.pointer (some ⟨PB, 0, none⟩)) := (ev.out 5 (by kernel_rfl)).trans rfl
                        clear hde ev hd HB
                        go_simp
                        exact hK _ _ ⟨hR.1.step (.inr rfl), hR.2⟩
                      refine Reg.Steps.cons (k' := 49) rfl ?_ ?_
                      · intro D vals a W hR hd hde ev K' hK
                        have HB := hR.2
                        have dg := Reg.dep hde 46 rfl
                        have xg : a.tmps[156]? = some (.bool false) := ev.got hR.1 46 156 _ rfl rfl dg
                        rw [if_pos (Reg.wanted_of rfl (Reg.yielded_of (t := 156) rfl xg))]
                        have d47 := Reg.dep hde 47 rfl
                        have x157 : a.tmps[157]? = some (.pointer (some ⟨PB, 0, none⟩)) := ev.got hR.1 47 157 _ rfl rfl d47
                        clear hde ev hd HB
                        go_simp
                        exact hK _ _ ⟨hR.1.step (.inr rfl), hR.2⟩
                      refine Reg.Steps.cons (k' := 50) rfl ?_ ?_
                      · intro D vals a W hR hd hde ev K' hK
                        have HB := hR.2
                        have dg := Reg.dep hde 46 rfl
                        have xg : a.tmps[156]? = some (.bool false) := ev.got hR.1 46 156 _ rfl rfl dg
                        rw [if_pos (Reg.wanted_of rfl (Reg.yielded_of (t := 156) rfl xg))]
                        have d48 := Reg.dep hde 48 rfl
                        have x158 : a.tmps[158]? = some (.pointer (some ⟨PB, 0, none⟩)) := ev.got hR.1 48 158 _ rfl rfl d48
                        clear hde ev hd HB
                        go_simp
                        exact hK _ _ ⟨hR.1.step (.inr rfl), hR.2⟩
                      refine Reg.Steps.cons (k' := 51) rfl ?_ ?_
                      · intro D vals a W hR hd hde ev K' hK
                        have HB := hR.2
                        have dg := Reg.dep hde 46 rfl
                        have xg : a.tmps[156]? = some (.bool false) := ev.got hR.1 46 156 _ rfl rfl dg
                        rw [if_pos (Reg.wanted_of rfl (Reg.yielded_of (t := 156) rfl xg))]
                        have d49 := Reg.dep hde 49 rfl
                        have x159 : a.tmps[159]? = some (.pointer (some ⟨PB, 0, none⟩)) := ev.got hR.1 49 159 _ rfl rfl d49
                        have q := (HPSW.out W (HB2V.out.trans (HB.mono HB2V.out.size))).pb.cell 0
                        clear hde ev hd HB
                        go_simp
                        exact hK _ _ ⟨hR.1.step (.inr rfl), hR.2⟩
                      refine Reg.Steps.cons (k' := 52) rfl ?_ ?_
                      · intro D vals a W hR hd hde ev K' hK
                        have HB := hR.2
                        have dg := Reg.dep hde 46 rfl
                        have xg : a.tmps[156]? = some (.bool false) := ev.got hR.1 46 156 _ rfl rfl dg
                        rw [if_pos (Reg.wanted_of rfl (Reg.yielded_of (t := 156) rfl xg))]
                        have x12 : a.tmps[12]? = some (.pointer (some ⟨gS, 0, none⟩)) := (ev.out 12 (by kernel_rfl)).trans rfl
                        have ks := HKS.out.below HB HKS.out.lt
                        have q0 := ks.cell 0
                        have q1 := ks.cell 1
                        have q2 := ks.cell 2
                        have q3 := ks.cell 3
                        clear ks
                        clear hde ev hd HB
                        go_simp
                        exact hK _ _ ⟨hR.1.step (.inr rfl), hR.2⟩
                      refine Reg.Steps.cons (k' := 53) rfl ?_ ?_
                      · intro D vals a W hR hd hde ev K' hK
                        have HB := hR.2
                        have dg := Reg.dep hde 46 rfl
                        have xg : a.tmps[156]? = some (.bool false) := ev.got hR.1 46 156 _ rfl rfl dg
                        rw [if_pos (Reg.wanted_of rfl (Reg.yielded_of (t := 156) rfl xg))]
                        have x10 : a.tmps[10]? = some (.pointer (some ⟨gT, 0, none⟩)) := (ev.out 10 (by kernel_rfl)).trans rfl
                        have kt := HKT.out.below HB HKT.out.lt
                        have q0 := kt.cell 0
                        have q1 := kt.cell 1
                        have q2 := kt.cell 2
                        have q3 := kt.cell 3
                        have q4 := kt.cell 4
                        have q5 := kt.cell 5
                        clear kt
                        clear hde ev hd HB
                        go_simp
                        exact hK _ _ ⟨hR.1.step (.inr rfl), hR.2⟩
                      refine Reg.Steps.cons (k' := 54) rfl ?_ ?_
                      · intro D vals a W hR hd hde ev K' hK
                        have HB := hR.2
                        have dg := Reg.dep hde 46 rfl
                        have xg : a.tmps[156]? = some (.bool false) := ev.got hR.1 46 156 _ rfl rfl dg
                        rw [if_pos (Reg.wanted_of rfl (Reg.yielded_of (t := 156) rfl xg))]
                        have d50 := Reg.dep hde 50 rfl
                        have x160 : a.tmps[160]? = some (.pointer (some ⟨P, 0, none⟩)) := ev.got hR.1 50 160 _ rfl rfl d50
                        have d51 := Reg.dep hde 51 rfl
                        have x161 : a.tmps[161]? = some (.agg #[.int .u64 (ow : Int), .int .u64 (xm : Int), .int .u64 (xx : Int), .slice RA rn rc]) := ev.got hR.1 51 161 _ rfl rfl d51
                        have d52 := Reg.dep hde 52 rfl
                        have x162 : a.tmps[162]? = some (.agg #[.int .u64 0, .int .u64 (ta : Int), .int .u64 (tb : Int), .int .i64 0, .int .i64 0, .slice none 0 0]) := ev.got hR.1 52 162 _ rfl rfl d52
                        have CC := Lib.hid (CF1.out W (HB2V.out.trans (HB.mono HB2V.out.size)))
                        have HR1 := Lib.hid hR
                        clear hde ev hd HB hR
                        go_simp
                        refine CC.out.mono ?_
                        rintro e W1 ⟨rfl, hb⟩
                        exact hK _ _ ⟨HR1.out.1.step (.inr rfl), HR1.out.2.trans (hb.mono HR1.out.2.size)⟩
                      refine Reg.Steps.cons (k' := 55) rfl ?_ ?_
                      · intro D vals a W hR hd hde ev K' hK
                        have HB := hR.2
                        have dg := Reg.dep hde 46 rfl
                        have xg : a.tmps[156]? = some (.bool false) := ev.got hR.1 46 156 _ rfl rfl dg
                        rw [if_pos (Reg.wanted_of rfl (Reg.yielded_of (t := 156) rfl xg))]
                        have x5 : a.tmps[5]? = some (.pointer (some ⟨PB, 0, none⟩)) := (ev.out 5 (by kernel_rfl)).trans rfl
                        clear hde ev hd HB
                        go_simp
                        exact hK _ _ ⟨hR.1.step (.inr rfl), hR.2⟩
                      refine Reg.Steps.cons (k' := 56) rfl ?_ ?_
                      · intro D vals a W hR hd hde ev K' hK
                        have HB := hR.2
                        have dg := Reg.dep hde 46 rfl
                        have xg : a.tmps[156]? = some (.bool false) := ev.got hR.1 46 156 _ rfl rfl dg
                        rw [if_pos (Reg.wanted_of rfl (Reg.yielded_of (t := 156) rfl xg))]
                        have d54 := Reg.dep hde 54 rfl
                        have x164 : a.tmps[164]? = some (.pointer (some ⟨PB, 0, none⟩)) := ev.got hR.1 54 164 _ rfl rfl d54
                        clear hde ev hd HB
                        go_simp
                        exact hK _ _ ⟨hR.1.step (.inr rfl), hR.2⟩
                      refine Reg.Steps.cons (k' := 57) rfl ?_ ?_
                      · intro D vals a W hR hd hde ev K' hK
                        have HB := hR.2
                        have dg := Reg.dep hde 46 rfl
                        have xg : a.tmps[156]? = some (.bool false) := ev.got hR.1 46 156 _ rfl rfl dg
                        rw [if_pos (Reg.wanted_of rfl (Reg.yielded_of (t := 156) rfl xg))]
                        have d55 := Reg.dep hde 55 rfl
                        have x165 : a.tmps[165]? = some (.pointer (some ⟨PB, 0, none⟩)) := ev.got hR.1 55 165 _ rfl rfl d55
                        clear hde ev hd HB
                        go_simp
                        exact hK _ _ ⟨hR.1.step (.inr rfl), hR.2⟩
                      refine Reg.Steps.cons (k' := 58) rfl ?_ ?_
                      · intro D vals a W hR hd hde ev K' hK
                        have HB := hR.2
                        have dg := Reg.dep hde 46 rfl
                        have xg : a.tmps[156]? = some (.bool false) := ev.got hR.1 46 156 _ rfl rfl dg
                        rw [if_pos (Reg.wanted_of rfl (Reg.yielded_of (t := 156) rfl xg))]
                        have d56 := Reg.dep hde 56 rfl
                        have x166 : a.tmps[166]? = some (.pointer (some ⟨PB, 1, none⟩)) := ev.got hR.1 56 166 _ rfl rfl d56
                        have q := (HPSW.out W (HB2V.out.trans (HB.mono HB2V.out.size))).pb.cell 1
                        clear hde ev hd HB
                        go_simp
                        exact hK _ _ ⟨hR.1.step (.inr rfl), hR.2⟩
                      refine Reg.Steps.cons (k' := 59) rfl ?_ ?_
                      · intro D vals a W hR hd hde ev K' hK
                        have HB := hR.2
                        have dg := Reg.dep hde 46 rfl
                        have xg : a.tmps[156]? = some (.bool false) := ev.got hR.1 46 156 _ rfl rfl dg
                        rw [if_pos (Reg.wanted_of rfl (Reg.yielded_of (t := 156) rfl xg))]
                        have x5 : a.tmps[5]? = some (.pointer (some ⟨PB, 0, none⟩)) := (ev.out 5 (by kernel_rfl)).trans rfl
                        clear hde ev hd HB
                        go_simp
                        exact hK _ _ ⟨hR.1.step (.inr rfl), hR.2⟩
                      refine Reg.Steps.cons (k' := 60) rfl ?_ ?_
                      · intro D vals a W hR hd hde ev K' hK
                        have HB := hR.2
                        have dg := Reg.dep hde 46 rfl
                        have xg : a.tmps[156]? = some (.bool false) := ev.got hR.1 46 156 _ rfl rfl dg
                        rw [if_pos (Reg.wanted_of rfl (Reg.yielded_of (t := 156) rfl xg))]
                        have d58 := Reg.dep hde 58 rfl
                        have x168 : a.tmps[168]? = some (.pointer (some ⟨PB, 0, none⟩)) := ev.got hR.1 58 168 _ rfl rfl d58
                        clear hde ev hd HB
                        go_simp
                        exact hK _ _ ⟨hR.1.step (.inr rfl), hR.2⟩
                      refine Reg.Steps.cons (k' := 61) rfl ?_ ?_
                      · intro D vals a W hR hd hde ev K' hK
                        have HB := hR.2
                        have dg := Reg.dep hde 46 rfl
                        have xg : a.tmps[156]? = some (.bool false) := ev.got hR.1 46 156 _ rfl rfl dg
                        rw [if_pos (Reg.wanted_of rfl (Reg.yielded_of (t := 156) rfl xg))]
                        have d59 := Reg.dep hde 59 rfl
                        have x169 : a.tmps[169]? = some (.pointer (some ⟨PB, 0, none⟩)) := ev.got hR.1 59 169 _ rfl rfl d59
                        clear hde ev hd HB
                        go_simp
                        exact hK _ _ ⟨hR.1.step (.inr rfl), hR.2⟩
                      refine Reg.Steps.cons (k' := 62) rfl ?_ ?_
                      · intro D vals a W hR hd hde ev K' hK
                        have HB := hR.2
                        have dg := Reg.dep hde 46 rfl
                        have xg : a.tmps[156]? = some (.bool false) := ev.got hR.1 46 156 _ rfl rfl dg
                        rw [if_pos (Reg.wanted_of rfl (Reg.yielded_of (t := 156) rfl xg))]
                        have d60 := Reg.dep hde 60 rfl
                        have x170 : a.tmps[170]? = some (.pointer (some ⟨PB, 3, none⟩)) := ev.got hR.1 60 170 _ rfl rfl d60
                        have q := (HPSW.out W (HB2V.out.trans (HB.mono HB2V.out.size))).pb.cell 3
                        rw [HP.out] at q
                        clear hde ev hd HB
                        go_simp
                        exact hK _ _ ⟨hR.1.step (.inr rfl), hR.2⟩
                      refine Reg.Steps.cons (k' := 63) rfl ?_ ?_
                      · intro D vals a W hR hd hde ev K' hK
                        have HB := hR.2
                        have dg := Reg.dep hde 46 rfl
                        have xg : a.tmps[156]? = some (.bool false) := ev.got hR.1 46 156 _ rfl rfl dg
                        rw [if_pos (Reg.wanted_of rfl (Reg.yielded_of (t := 156) rfl xg))]
                        have x11 : a.tmps[11]? = some (.int .i64 (k : Int)) := (ev.out 11 (by kernel_rfl)).trans rfl
                        clear hde ev hd HB
                        go_simp
                        exact hK _ _ ⟨hR.1.step (.inr rfl), hR.2⟩
                      refine Reg.Steps.cons (k' := 64) rfl ?_ ?_
                      · intro D vals a W hR hd hde ev K' hK
                        have HB := hR.2
                        have dg := Reg.dep hde 46 rfl
                        have xg : a.tmps[156]? = some (.bool false) := ev.got hR.1 46 156 _ rfl rfl dg
                        rw [if_pos (Reg.wanted_of rfl (Reg.yielded_of (t := 156) rfl xg))]
                        have d61 := Reg.dep hde 61 rfl
                        have x171 : a.tmps[171]? = some (.slice (some ⟨gB, 0, none⟩) p d1) := ev.got hR.1 61 171 _ rfl rfl d61
                        have d62 := Reg.dep hde 62 rfl
                        have x172 : a.tmps[172]? = some (.int .i64 (k : Int)) := ev.got hR.1 62 172 _ rfl rfl d62
                        clear hde ev hd HB
                        go_simp
                        exact hK _ _ ⟨hR.1.step (.inr rfl), hR.2⟩
                      refine Reg.Steps.cons (k' := 65) rfl ?_ ?_
                      · intro D vals a W hR hd hde ev K' hK
                        have HB := hR.2
                        have dg := Reg.dep hde 46 rfl
                        have xg : a.tmps[156]? = some (.bool false) := ev.got hR.1 46 156 _ rfl rfl dg
                        rw [if_pos (Reg.wanted_of rfl (Reg.yielded_of (t := 156) rfl xg))]
                        have d63 := Reg.dep hde 63 rfl
                        have x173 : a.tmps[173]? = some (.pointer (some ⟨gB, k * 3, none⟩)) := ev.got hR.1 63 173 _ rfl rfl d63
                        have kb := HCB.out W (HB2V.out.trans (HB.mono HB2V.out.size))
                        have q0 := kb.1
                        have q1 := kb.2.1
                        have q2 := kb.2.2
                        clear kb
                        clear hde ev hd HB
                        go_simp
                        exact hK _ _ ⟨hR.1.step (.inr rfl), hR.2⟩
                      refine Reg.Steps.cons (k' := 66) rfl ?_ ?_
                      · intro D vals a W hR hd hde ev K' hK
                        have HB := hR.2
                        have dg := Reg.dep hde 46 rfl
                        have xg : a.tmps[156]? = some (.bool false) := ev.got hR.1 46 156 _ rfl rfl dg
                        rw [if_pos (Reg.wanted_of rfl (Reg.yielded_of (t := 156) rfl xg))]
                        have x10 : a.tmps[10]? = some (.pointer (some ⟨gT, 0, none⟩)) := (ev.out 10 (by kernel_rfl)).trans rfl
                        have kt := HKT.out.below HB HKT.out.lt
                        have q0 := kt.cell 0
                        have q1 := kt.cell 1
                        have q2 := kt.cell 2
                        have q3 := kt.cell 3
                        have q4 := kt.cell 4
                        have q5 := kt.cell 5
                        clear kt
                        clear hde ev hd HB
                        go_simp
                        exact hK _ _ ⟨hR.1.step (.inr rfl), hR.2⟩
                      refine Reg.Steps.cons (k' := 67) rfl ?_ ?_
                      · intro D vals a W hR hd hde ev K' hK
                        have HB := hR.2
                        have dg := Reg.dep hde 46 rfl
                        have xg : a.tmps[156]? = some (.bool false) := ev.got hR.1 46 156 _ rfl rfl dg
                        rw [if_pos (Reg.wanted_of rfl (Reg.yielded_of (t := 156) rfl xg))]
                        have d57 := Reg.dep hde 57 rfl
                        have x167 : a.tmps[167]? = some (.pointer (some ⟨Q, 0, none⟩)) := ev.got hR.1 57 167 _ rfl rfl d57
                        have d64 := Reg.dep hde 64 rfl
                        have x174 : a.tmps[174]? = some (.agg #[.int .u64 (ow : Int), .int .u64 (xx : Int), .slice RB rn rd]) := ev.got hR.1 64 174 _ rfl rfl d64
                        have d65 := Reg.dep hde 65 rfl
                        have x175 : a.tmps[175]? = some (.agg #[.int .u64 0, .int .u64 (ta : Int), .int .u64 (tb : Int), .int .i64 0, .int .i64 0, .slice none 0 0]) := ev.got hR.1 65 175 _ rfl rfl d65
                        have CC := Lib.hid (CF2.out W (HB2V.out.trans (HB.mono HB2V.out.size)))
                        have HR1 := Lib.hid hR
                        clear hde ev hd HB hR
                        go_simp
                        refine CC.out.mono ?_
                        rintro e W1 ⟨rfl, hb⟩
                        exact hK _ _ ⟨HR1.out.1.step (.inr rfl), HR1.out.2.trans (hb.mono HR1.out.2.size)⟩
                      refine Reg.Steps.cons (k' := 68) rfl ?_ ?_
                      · intro D vals a W hR hd hde ev K' hK
                        have HB := hR.2
                        have dg := Reg.dep hde 46 rfl
                        have xg : a.tmps[156]? = some (.bool false) := ev.got hR.1 46 156 _ rfl rfl dg
                        rw [if_pos (Reg.wanted_of rfl (Reg.yielded_of (t := 156) rfl xg))]
                        have d53 := Reg.dep hde 53 rfl
                        have x163 : a.tmps[163]? = some (.int .i64 fr) := ev.got hR.1 53 163 _ rfl rfl d53
                        have d66 := Reg.dep hde 66 rfl
                        have x176 : a.tmps[176]? = some (.int .i64 fr) := ev.got hR.1 66 176 _ rfl rfl d66
                        clear hde ev hd HB
                        go_simp
                        exact hK _ _ ⟨hR.1.step (.inr rfl), hR.2⟩
                      refine Reg.Steps.cons (k' := 69) rfl ?_ ?_
                      · intro D vals a W hR hd hde ev K' hK
                        have HB := hR.2
                        have d46 := Reg.dep hde 46 rfl
                        have x156 : a.tmps[156]? = some (.bool false) := ev.got hR.1 46 156 _ rfl rfl d46
                        have d67 := Reg.dep hde 67 rfl
                        have x177 : a.tmps[177]? = some (.bool false) := ev.got hR.1 67 177 _ rfl rfl d67
                        clear hde ev hd HB
                        go_simp
                        exact hK _ _ ⟨hR.1.step (.inr rfl), hR.2⟩
                      exact Reg.Steps.nil
                    · intro D vals W2 hD hR
                      have hB2 := hR.2
                      have ev68 := hR.1 68 _ rfl (hD 68 (by decide))
                      clear hR hD
                      simp only [Reg.fin, Act.put, List.setIfInBounds_toArray, List.set_cons_zero, List.set_cons_succ, ev68]
                      clear ev68
                      generalize vals 0 = z0; generalize vals 1 = z1; generalize vals 2 = z2; generalize vals 3 = z3; generalize vals 4 = z4; generalize vals 5 = z5; generalize vals 6 = z6; generalize vals 7 = z7; generalize vals 8 = z8; generalize vals 9 = z9; generalize vals 10 = z10; generalize vals 11 = z11; generalize vals 12 = z12; generalize vals 13 = z13; generalize vals 14 = z14; generalize vals 15 = z15; generalize vals 16 = z16; generalize vals 17 = z17; generalize vals 18 = z18; generalize vals 19 = z19; generalize vals 20 = z20; generalize vals 21 = z21; generalize vals 22 = z22; generalize vals 23 = z23; generalize vals 24 = z24; generalize vals 25 = z25; generalize vals 26 = z26; generalize vals 27 = z27; generalize vals 28 = z28; generalize vals 29 = z29; generalize vals 30 = z30; generalize vals 31 = z31; generalize vals 32 = z32; generalize vals 33 = z33; generalize vals 34 = z34; generalize vals 35 = z35; generalize vals 36 = z36; generalize vals 37 = z37; generalize vals 38 = z38; generalize vals 39 = z39; generalize vals 40 = z40; generalize vals 41 = z41; generalize vals 42 = z42; generalize vals 43 = z43; generalize vals 44 = z44; generalize vals 45 = z45; generalize vals 46 = z46; generalize vals 47 = z47; generalize vals 48 = z48; generalize vals 49 = z49; generalize vals 50 = z50; generalize vals 51 = z51; generalize vals 52 = z52; generalize vals 53 = z53; generalize vals 54 = z54; generalize vals 55 = z55; generalize vals 56 = z56; generalize vals 57 = z57; generalize vals 58 = z58; generalize vals 59 = z59; generalize vals 60 = z60; generalize vals 61 = z61; generalize vals 62 = z62; generalize vals 63 = z63; generalize vals 64 = z64; generalize vals 65 = z65; generalize vals 66 = z66; generalize vals 67 = z67
                      clear vals
                      have HBF := Lib.hid (HB6.out.trans (hB2.mono HB6.out.size))
                      clear hB2
                      go_wp2_with fail
                      go_roundw
                      case rel => exact ⟨k + 1, by omega, by go_num, HBF.out⟩
                      case measure => simp [intOf]; omega
                  · obtain rfl : k = p := by omega
                    have HBF := Lib.hid (HB2W.out.trans (HBI.out.mono HB2W.out.size))
                    go_wp2_with fail
                    go_roundw
                    case rel => exact ⟨q + 1, by omega, by go_num, HBF.out⟩
                    case measure => simp [intOf]; omega
            · obtain ⟨ta, hta⟩ : ∃ ta : Nat, a0 % 40 = ta := ⟨_, rfl⟩
              obtain ⟨tb, htb⟩ : ∃ tb : Nat, b0 % 40 = tb := ⟨_, rfl⟩
              have hta' : (a0 : Int) % 40 = ta := by omega
              have htb' : (b0 : Int) % 40 = tb := by omega
              have hta2 : Int.tmod (a0 : Int) 40 = (ta : Int) := by rw [Int.tmod_eq_emod_of_nonneg (by omega)]; exact hta'
              have htb2 : Int.tmod (b0 : Int) 40 = (tb : Int) := by rw [Int.tmod_eq_emod_of_nonneg (by omega)]; exact htb'
              have HTA : Hid (ta < 18446744073709551616 ∧ tb < 18446744073709551616) := Lib.hid (by omega)
              have CTU := Lib.hid (fun W => tuple_any W ta tb)
              have e3 : ((r4 : Int) != 3) = true := by rw [bne, beq_eq_false_iff_ne.2 (by omega)]; rfl
              have e4 : (r4 != 3) = true := by rw [bne, beq_eq_false_iff_ne.2 h3]; rfl
              have HB2U : Hid (Below w2.heap.size w2 (wr.alloc (.cells #[.int .u64 (ta : Int), .int .u64 (tb : Int)] 37))) := Lib.hid (HBO.out.alloc HBO.out.size _)
              have HKU : Hid (Blk (wr.alloc (.cells #[.int .u64 (ta : Int), .int .u64 (tb : Int)] 37)) wr.heap.size 37 #[.int .u64 (ta : Int), .int .u64 (tb : Int)]) := Lib.hid (Blk.new _ _ _)
              clear hta htb hr4 h3
              go_wp2_with fail
              clear x0 x1 hta' htb' hta2 htb2 ha1 hb1
              generalize (wr.alloc (.cells #[.int .u64 (ta : Int), .int .u64 (tb : Int)] 37)) = VU at *
              generalize wr.heap.size = gV at *
              refine (CTU.out _).mono ?_
              rintro e w4 ⟨rfl, hb4⟩
              have HB2T := Lib.hid (HB2U.out.trans (hb4.mono HB2U.out.size))
              have HKV5 := Lib.hid (HKU.out.below hb4 HKU.out.lt)
              clear hb4
              go_wp2_with fail
              have HB2V : Hid (Below w2.heap.size w2 (w4.alloc (.cells #[.int .u64 0, .int .u64 (ta : Int), .int .u64 (tb : Int), .int .i64 0, .int .i64 0, .slice none 0 0] 42))) := Lib.hid (HB2T.out.alloc HB2T.out.size _)
              have HKT : Hid (Blk (w4.alloc (.cells #[.int .u64 0, .int .u64 (ta : Int), .int .u64 (tb : Int), .int .i64 0, .int .i64 0, .slice none 0 0] 42)) w4.heap.size 42 #[.int .u64 0, .int .u64 (ta : Int), .int .u64 (tb : Int), .int .i64 0, .int .i64 0, .slice none 0 0]) := Lib.hid (Blk.new _ _ _)
              have HKV := Lib.hid (HKV5.out.alloc (.cells #[.int .u64 0, .int .u64 (ta : Int), .int .u64 (tb : Int), .int .i64 0, .int .i64 0, .slice none 0 0] 42))
              generalize (w4.alloc (.cells #[.int .u64 0, .int .u64 (ta : Int), .int .u64 (tb : Int), .int .i64 0, .int .i64 0, .slice none 0 0] 42)) = V at *
              generalize w4.heap.size = gT at *
              clear HKV5
              obtain ⟨dd, hdd⟩ : ∃ dd, deadB 1 S ta tb hz = dd := ⟨_, rfl⟩
              obtain ⟨de, hde⟩ : ∃ de, deadB 1 S ta tb tb = de := ⟨_, rfl⟩
              have CD1 : Hid (∀ W, Below w2.heap.size w2 W → Calls Try.prog 17 #[.pointer (some ⟨P, 0, none⟩), .agg #[.int .u64 0, .int .u64 (ta : Int), .int .u64 (tb : Int), .int .i64 0, .int .i64 0, .slice none 0 0], .int .u64 (hz : Int)] W fun e w' => e = .returned (.bool dd) ∧ Below W.heap.size W w') := Lib.hid (fun W h => by
                have hps := HPSW.out W h
                obtain ⟨F, hal⟩ := hps.ap.al
                have := dead_any hal hps.ok (z := hz) HTA.out.1 HTA.out.2
                rw [hdd] at this
                exact this)
              have CD2 : Hid (∀ W, Below w2.heap.size w2 W → Calls Try.prog 18 #[.pointer (some ⟨Q, 0, none⟩), .agg #[.int .u64 0, .int .u64 (ta : Int), .int .u64 (tb : Int), .int .i64 0, .int .i64 0, .slice none 0 0], .int .u64 (hz : Int)] W fun e w' => e = .returned (.bool dd) ∧ Below W.heap.size W w') := Lib.hid (fun W h => by
                have hps := HPSW.out W h
                obtain ⟨G, hrl⟩ := hps.ap.rl
                have := rdead_any hrl (by omega) (z := hz) HTA.out.1 HTA.out.2
                rw [hdd] at this
                exact this)
              have CD3 : Hid (∀ W, Below w2.heap.size w2 W → Calls Try.prog 17 #[.pointer (some ⟨P, 0, none⟩), .agg #[.int .u64 0, .int .u64 (ta : Int), .int .u64 (tb : Int), .int .i64 0, .int .i64 0, .slice none 0 0], .int .u64 (tb : Int)] W fun e w' => e = .returned (.bool de) ∧ Below W.heap.size W w') := Lib.hid (fun W h => by
                have hps := HPSW.out W h
                obtain ⟨F, hal⟩ := hps.ap.al
                have := dead_any hal hps.ok (z := tb) HTA.out.1 HTA.out.2
                rw [hde] at this
                exact this)
              have CD4 : Hid (∀ W, Below w2.heap.size w2 W → Calls Try.prog 18 #[.pointer (some ⟨Q, 0, none⟩), .agg #[.int .u64 0, .int .u64 (ta : Int), .int .u64 (tb : Int), .int .i64 0, .int .i64 0, .slice none 0 0], .int .u64 (tb : Int)] W fun e w' => e = .returned (.bool de) ∧ Below W.heap.size W w') := Lib.hid (fun W h => by
                have hps := HPSW.out W h
                obtain ⟨G, hrl⟩ := hps.ap.rl
                have := rdead_any hrl (by omega) (z := tb) HTA.out.1 HTA.out.2
                rw [hde] at this
                exact this)
              clear hdd hde
              refine Reg.wp_region_inv_lit (by kernel_rfl) (by kernel_rfl) (fun D vals W => Reg.Fx (fun k9 => ([some (.pointer (some ⟨PB, 0, none⟩)), some (.pointer (some ⟨PB, 0, none⟩)), some (.pointer (some ⟨PB, 0, none⟩)), some (.pointer (some ⟨P, 0, none⟩)), some (.agg #[.int .u64 0, .int .u64 (ta : Int), .int .u64 (tb : Int), .int .i64 0, .int .i64 0, .slice none 0 0]), some (.int .u64 (hz : Int)), some (.bool dd), some (.pointer (some ⟨PB, 0, none⟩)), some (.pointer (some ⟨PB, 0, none⟩)), some (.pointer (some ⟨PB, 1, none⟩)), some (.pointer (some ⟨Q, 0, none⟩)), some (.agg #[.int .u64 0, .int .u64 (ta : Int), .int .u64 (tb : Int), .int .i64 0, .int .i64 0, .slice none 0 0]), some (.int .u64 (hz : Int)), some (.bool dd), some (.bool false), some (.bool false), some (.pointer (some ⟨PB, 0, none⟩)), some (.pointer (some ⟨PB, 0, none⟩)), some (.pointer (some ⟨PB, 0, none⟩)), some (.pointer (some ⟨P, 0, none⟩)), some (.agg #[.int .u64 0, .int .u64 (ta : Int), .int .u64 (tb : Int), .int .i64 0, .int .i64 0, .slice none 0 0]), some (.pointer (some ⟨gV, 1, none⟩)), some (.int .u64 (tb : Int)), some (.bool de), some (.pointer (some ⟨PB, 0, none⟩)), some (.pointer (some ⟨PB, 0, none⟩)), some (.pointer (some ⟨PB, 1, none⟩)), some (.pointer (some ⟨Q, 0, none⟩)), some (.agg #[.int .u64 0, .int .u64 (ta : Int), .int .u64 (tb : Int), .int .i64 0, .int .i64 0, .slice none 0 0]), some (.pointer (some ⟨gV, 1, none⟩)), some (.int .u64 (tb : Int)), some (.bool de), some (.bool false), some (.bool false)] : List (Option Value)).getD k9 none) D vals ∧ Below V.heap.size V W) ⟨Reg.Fx.init _ _, ⟨rfl, rfl, rfl, Nat.le_refl _, fun _ _ => rfl⟩⟩ (fun Q' => ?_) ?_
              · refine Reg.Steps.cons (k' := 1) rfl ?_ ?_
                · intro D vals a W hR hd hde ev K' hK
                  have HB := hR.2
                  have x5 : a.tmps[5]? = some (.pointer (some ⟨PB, 0, none⟩)) := (ev.out 5 (by kernel_rfl)).trans rfl
                  clear hde ev hd HB
                  go_simp
                  exact hK _ _ ⟨hR.1.step (.inr rfl), hR.2⟩
                refine Reg.Steps.cons (k' := 2) rfl ?_ ?_
                · intro D vals a W hR hd hde ev K' hK
                  have HB := hR.2
                  have d0 := Reg.dep hde 0 rfl
                  have x66 : a.tmps[66]? = some (.pointer (some ⟨PB, 0, none⟩)) := ev.got hR.1 0 66 _ rfl rfl d0
                  clear hde ev hd HB
                  go_simp
                  exact hK _ _ ⟨hR.1.step (.inr rfl), hR.2⟩
                refine Reg.Steps.cons (k' := 3) rfl ?_ ?_
                · intro D vals a W hR hd hde ev K' hK
                  have HB := hR.2
                  have d1 := Reg.dep hde 1 rfl
                  have x67 : a.tmps[67]? = some (.pointer (some ⟨PB, 0, none⟩)) := ev.got hR.1 1 67 _ rfl rfl d1
                  clear hde ev hd HB
                  go_simp
                  exact hK _ _ ⟨hR.1.step (.inr rfl), hR.2⟩
                refine Reg.Steps.cons (k' := 4) rfl ?_ ?_
                · intro D vals a W hR hd hde ev K' hK
                  have HB := hR.2
                  have d2 := Reg.dep hde 2 rfl
                  have x68 : a.tmps[68]? = some (.pointer (some ⟨PB, 0, none⟩)) := ev.got hR.1 2 68 _ rfl rfl d2
                  have q := (HPSW.out W (HB2V.out.trans (HB.mono HB2V.out.size))).pb.cell 0
                  clear hde ev hd HB
                  go_simp
                  exact hK _ _ ⟨hR.1.step (.inr rfl), hR.2⟩
                refine Reg.Steps.cons (k' := 5) rfl ?_ ?_
                · intro D vals a W hR hd hde ev K' hK
                  have HB := hR.2
                  have x10 : a.tmps[10]? = some (.pointer (some ⟨gT, 0, none⟩)) := (ev.out 10 (by kernel_rfl)).trans rfl
                  have kt := HKT.out.below HB HKT.out.lt
                  have q0 := kt.cell 0
                  have q1 := kt.cell 1
                  have q2 := kt.cell 2
                  have q3 := kt.cell 3
                  have q4 := kt.cell 4
                  have q5 := kt.cell 5
                  clear kt
                  clear hde ev hd HB
                  go_simp
                  exact hK _ _ ⟨hR.1.step (.inr rfl), hR.2⟩
                refine Reg.Steps.cons (k' := 6) rfl ?_ ?_
                · intro D vals a W hR hd hde ev K' hK
                  have HB := hR.2
                  have x7 : a.tmps[7]? = some (.int .u64 (hz : Int)) := (ev.out 7 (by kernel_rfl)).trans rfl
                  clear hde ev hd HB
                  go_simp
                  exact hK _ _ ⟨hR.1.step (.inr rfl), hR.2⟩
                refine Reg.Steps.cons (k' := 7) rfl ?_ ?_
                · intro D vals a W hR hd hde ev K' hK
                  have HB := hR.2
                  have d3 := Reg.dep hde 3 rfl
                  have x69 : a.tmps[69]? = some (.pointer (some ⟨P, 0, none⟩)) := ev.got hR.1 3 69 _ rfl rfl d3
                  have d4 := Reg.dep hde 4 rfl
                  have x70 : a.tmps[70]? = some (.agg #[.int .u64 0, .int .u64 (ta : Int), .int .u64 (tb : Int), .int .i64 0, .int .i64 0, .slice none 0 0]) := ev.got hR.1 4 70 _ rfl rfl d4
                  have d5 := Reg.dep hde 5 rfl
                  have x71 : a.tmps[71]? = some (.int .u64 (hz : Int)) := ev.got hR.1 5 71 _ rfl rfl d5
                  have CC := Lib.hid (CD1.out W (HB2V.out.trans (HB.mono HB2V.out.size)))
                  have HR1 := Lib.hid hR
                  clear hde ev hd HB hR
                  go_simp
                  refine CC.out.mono ?_
                  rintro e W1 ⟨rfl, hb⟩
                  exact hK _ _ ⟨HR1.out.1.step (.inr rfl), HR1.out.2.trans (hb.mono HR1.out.2.size)⟩
                refine Reg.Steps.cons (k' := 8) rfl ?_ ?_
                · intro D vals a W hR hd hde ev K' hK
                  have HB := hR.2
                  have x5 : a.tmps[5]? = some (.pointer (some ⟨PB, 0, none⟩)) := (ev.out 5 (by kernel_rfl)).trans rfl
                  clear hde ev hd HB
                  go_simp
                  exact hK _ _ ⟨hR.1.step (.inr rfl), hR.2⟩
                refine Reg.Steps.cons (k' := 9) rfl ?_ ?_
                · intro D vals a W hR hd hde ev K' hK
                  have HB := hR.2
                  have d7 := Reg.dep hde 7 rfl
                  have x73 : a.tmps[73]? = some (.pointer (some ⟨PB, 0, none⟩)) := ev.got hR.1 7 73 _ rfl rfl d7
                  clear hde ev hd HB
                  go_simp
                  exact hK _ _ ⟨hR.1.step (.inr rfl), hR.2⟩
                refine Reg.Steps.cons (k' := 10) rfl ?_ ?_
                · intro D vals a W hR hd hde ev K' hK
                  have HB := hR.2
                  have d8 := Reg.dep hde 8 rfl
                  have x74 : a.tmps[74]? = some (.pointer (some ⟨PB, 0, none⟩)) := ev.got hR.1 8 74 _ rfl rfl d8
                  clear hde ev hd HB
                  go_simp
                  exact hK _ _ ⟨hR.1.step (.inr rfl), hR.2⟩
                refine Reg.Steps.cons (k' := 11) rfl ?_ ?_
                · intro D vals a W hR hd hde ev K' hK
                  have HB := hR.2
                  have d9 := Reg.dep hde 9 rfl
                  have x75 : a.tmps[75]? = some (.pointer (some ⟨PB, 1, none⟩)) := ev.got hR.1 9 75 _ rfl rfl d9
                  have q := (HPSW.out W (HB2V.out.trans (HB.mono HB2V.out.size))).pb.cell 1
                  clear hde ev hd HB
                  go_simp
                  exact hK _ _ ⟨hR.1.step (.inr rfl), hR.2⟩
                refine Reg.Steps.cons (k' := 12) rfl ?_ ?_
                · intro D vals a W hR hd hde ev K' hK
                  have HB := hR.2
                  have x10 : a.tmps[10]? = some (.pointer (some ⟨gT, 0, none⟩)) := (ev.out 10 (by kernel_rfl)).trans rfl
                  have kt := HKT.out.below HB HKT.out.lt
                  have q0 := kt.cell 0
                  have q1 := kt.cell 1
                  have q2 := kt.cell 2
                  have q3 := kt.cell 3
                  have q4 := kt.cell 4
                  have q5 := kt.cell 5
                  clear kt
                  clear hde ev hd HB
                  go_simp
                  exact hK _ _ ⟨hR.1.step (.inr rfl), hR.2⟩
                refine Reg.Steps.cons (k' := 13) rfl ?_ ?_
                · intro D vals a W hR hd hde ev K' hK
                  have HB := hR.2
                  have x7 : a.tmps[7]? = some (.int .u64 (hz : Int)) := (ev.out 7 (by kernel_rfl)).trans rfl
                  clear hde ev hd HB
                  go_simp
                  exact hK _ _ ⟨hR.1.step (.inr rfl), hR.2⟩
                refine Reg.Steps.cons (k' := 14) rfl ?_ ?_
                · intro D vals a W hR hd hde ev K' hK
                  have HB := hR.2
                  have d10 := Reg.dep hde 10 rfl
                  have x76 : a.tmps[76]? = some (.pointer (some ⟨Q, 0, none⟩)) := ev.got hR.1 10 76 _ rfl rfl d10
                  have d11 := Reg.dep hde 11 rfl
                  have x77 : a.tmps[77]? = some (.agg #[.int .u64 0, .int .u64 (ta : Int), .int .u64 (tb : Int), .int .i64 0, .int .i64 0, .slice none 0 0]) := ev.got hR.1 11 77 _ rfl rfl d11
                  have d12 := Reg.dep hde 12 rfl
                  have x78 : a.tmps[78]? = some (.int .u64 (hz : Int)) := ev.got hR.1 12 78 _ rfl rfl d12
                  have CC := Lib.hid (CD2.out W (HB2V.out.trans (HB.mono HB2V.out.size)))
                  have HR1 := Lib.hid hR
                  clear hde ev hd HB hR
                  go_simp
                  refine CC.out.mono ?_
                  rintro e W1 ⟨rfl, hb⟩
                  exact hK _ _ ⟨HR1.out.1.step (.inr rfl), HR1.out.2.trans (hb.mono HR1.out.2.size)⟩
                refine Reg.Steps.cons (k' := 15) rfl ?_ ?_
                · intro D vals a W hR hd hde ev K' hK
                  have HB := hR.2
                  have d6 := Reg.dep hde 6 rfl
                  have x72 : a.tmps[72]? = some (.bool dd) := ev.got hR.1 6 72 _ rfl rfl d6
                  have d13 := Reg.dep hde 13 rfl
                  have x79 : a.tmps[79]? = some (.bool dd) := ev.got hR.1 13 79 _ rfl rfl d13
                  clear hde ev hd HB
                  go_simp
                  exact hK _ _ ⟨hR.1.step (.inr rfl), hR.2⟩
                refine Reg.Steps.cons (k' := 16) rfl ?_ ?_
                · intro D vals a W hR hd hde ev K' hK
                  have HB := hR.2
                  have d14 := Reg.dep hde 14 rfl
                  have x80 : a.tmps[80]? = some (.bool false) := ev.got hR.1 14 80 _ rfl rfl d14
                  clear hde ev hd HB
                  go_simp
                  exact hK _ _ ⟨hR.1.step (.inr rfl), hR.2⟩
                refine Reg.Steps.cons (k' := 17) rfl ?_ ?_
                · intro D vals a W hR hd hde ev K' hK
                  have HB := hR.2
                  have dg := Reg.dep hde 15 rfl
                  have xg : a.tmps[81]? = some (.bool false) := ev.got hR.1 15 81 _ rfl rfl dg
                  rw [if_pos (Reg.wanted_of rfl (Reg.yielded_of (t := 81) rfl xg))]
                  have x5 : a.tmps[5]? = some (.pointer (some ⟨PB, 0, none⟩)) := (ev.out 5 (by kernel_rfl)).trans rfl
                  clear hde ev hd HB
                  go_simp
                  exact hK _ _ ⟨hR.1.step (.inr rfl), hR.2⟩
                refine Reg.Steps.cons (k' := 18) rfl ?_ ?_
                · intro D vals a W hR hd hde ev K' hK
                  have HB := hR.2
                  have dg := Reg.dep hde 15 rfl
                  have xg : a.tmps[81]? = some (.bool false) := ev.got hR.1 15 81 _ rfl rfl dg
                  rw [if_pos (Reg.wanted_of rfl (Reg.yielded_of (t := 81) rfl xg))]
                  have d16 := Reg.dep hde 16 rfl
                  have x82 : a.tmps[82]? = some (.pointer (some ⟨PB, 0, none⟩)) := ev.got hR.1 16 82 _ rfl rfl d16
                  clear hde ev hd HB
                  go_simp
                  exact hK _ _ ⟨hR.1.step (.inr rfl), hR.2⟩
                refine Reg.Steps.cons (k' := 19) rfl ?_ ?_
                · intro D vals a W hR hd hde ev K' hK
                  have HB := hR.2
                  have dg := Reg.dep hde 15 rfl
                  have xg : a.tmps[81]? = some (.bool false) := ev.got hR.1 15 81 _ rfl rfl dg
                  rw [if_pos (Reg.wanted_of rfl (Reg.yielded_of (t := 81) rfl xg))]
                  have d17 := Reg.dep hde 17 rfl
                  have x83 : a.tmps[83]? = some (.pointer (some ⟨PB, 0, none⟩)) := ev.got hR.1 17 83 _ rfl rfl d17
                  clear hde ev hd HB
                  go_simp
                  exact hK _ _ ⟨hR.1.step (.inr rfl), hR.2⟩
                refine Reg.Steps.cons (k' := 20) rfl ?_ ?_
                · intro D vals a W hR hd hde ev K' hK
                  have HB := hR.2
                  have dg := Reg.dep hde 15 rfl
                  have xg : a.tmps[81]? = some (.bool false) := ev.got hR.1 15 81 _ rfl rfl dg
                  rw [if_pos (Reg.wanted_of rfl (Reg.yielded_of (t := 81) rfl xg))]
                  have d18 := Reg.dep hde 18 rfl
                  have x84 : a.tmps[84]? = some (.pointer (some ⟨PB, 0, none⟩)) := ev.got hR.1 18 84 _ rfl rfl d18
                  have q := (HPSW.out W (HB2V.out.trans (HB.mono HB2V.out.size))).pb.cell 0
                  clear hde ev hd HB
                  go_simp
                  exact hK _ _ ⟨hR.1.step (.inr rfl), hR.2⟩
                refine Reg.Steps.cons (k' := 21) rfl ?_ ?_
                · intro D vals a W hR hd hde ev K' hK
                  have HB := hR.2
                  have dg := Reg.dep hde 15 rfl
                  have xg : a.tmps[81]? = some (.bool false) := ev.got hR.1 15 81 _ rfl rfl dg
                  rw [if_pos (Reg.wanted_of rfl (Reg.yielded_of (t := 81) rfl xg))]
                  have x10 : a.tmps[10]? = some (.pointer (some ⟨gT, 0, none⟩)) := (ev.out 10 (by kernel_rfl)).trans rfl
                  have kt := HKT.out.below HB HKT.out.lt
                  have q0 := kt.cell 0
                  have q1 := kt.cell 1
                  have q2 := kt.cell 2
                  have q3 := kt.cell 3
                  have q4 := kt.cell 4
                  have q5 := kt.cell 5
                  clear kt
                  clear hde ev hd HB
                  go_simp
                  exact hK _ _ ⟨hR.1.step (.inr rfl), hR.2⟩
                refine Reg.Steps.cons (k' := 22) rfl ?_ ?_
                · intro D vals a W hR hd hde ev K' hK
                  have HB := hR.2
                  have dg := Reg.dep hde 15 rfl
                  have xg : a.tmps[81]? = some (.bool false) := ev.got hR.1 15 81 _ rfl rfl dg
                  rw [if_pos (Reg.wanted_of rfl (Reg.yielded_of (t := 81) rfl xg))]
                  have x9 : a.tmps[9]? = some (.pointer (some ⟨gV, 0, none⟩)) := (ev.out 9 (by kernel_rfl)).trans rfl
                  clear hde ev hd HB
                  go_simp
                  exact hK _ _ ⟨hR.1.step (.inr rfl), hR.2⟩
                refine Reg.Steps.cons (k' := 23) rfl ?_ ?_
                · intro D vals a W hR hd hde ev K' hK
                  have HB := hR.2
                  have dg := Reg.dep hde 15 rfl
                  have xg : a.tmps[81]? = some (.bool false) := ev.got hR.1 15 81 _ rfl rfl dg
                  rw [if_pos (Reg.wanted_of rfl (Reg.yielded_of (t := 81) rfl xg))]
                  have d21 := Reg.dep hde 21 rfl
                  have x87 : a.tmps[87]? = some (.pointer (some ⟨gV, 1, none⟩)) := ev.got hR.1 21 87 _ rfl rfl d21
                  have q := (HKV.out.below HB HKV.out.lt).cell 1
                  clear hde ev hd HB
                  go_simp
                  exact hK _ _ ⟨hR.1.step (.inr rfl), hR.2⟩
                refine Reg.Steps.cons (k' := 24) rfl ?_ ?_
                · intro D vals a W hR hd hde ev K' hK
                  have HB := hR.2
                  have dg := Reg.dep hde 15 rfl
                  have xg : a.tmps[81]? = some (.bool false) := ev.got hR.1 15 81 _ rfl rfl dg
                  rw [if_pos (Reg.wanted_of rfl (Reg.yielded_of (t := 81) rfl xg))]
                  have d19 := Reg.dep hde 19 rfl
                  have x85 : a.tmps[85]? = some (.pointer (some ⟨P, 0, none⟩)) := ev.got hR.1 19 85 _ rfl rfl d19
                  have d20 := Reg.dep hde 20 rfl
                  have x86 : a.tmps[86]? = some (.agg #[.int .u64 0, .int .u64 (ta : Int), .int .u64 (tb : Int), .int .i64 0, .int .i64 0, .slice none 0 0]) := ev.got hR.1 20 86 _ rfl rfl d20
                  have d22 := Reg.dep hde 22 rfl
                  have x88 : a.tmps[88]? = some (.int .u64 (tb : Int)) := ev.got hR.1 22 88 _ rfl rfl d22
                  have CC := Lib.hid (CD3.out W (HB2V.out.trans (HB.mono HB2V.out.size)))
                  have HR1 := Lib.hid hR
                  clear hde ev hd HB hR
                  go_simp
                  refine CC.out.mono ?_
                  rintro e W1 ⟨rfl, hb⟩
                  exact hK _ _ ⟨HR1.out.1.step (.inr rfl), HR1.out.2.trans (hb.mono HR1.out.2.size)⟩
                refine Reg.Steps.cons (k' := 25) rfl ?_ ?_
                · intro D vals a W hR hd hde ev K' hK
                  have HB := hR.2
                  have dg := Reg.dep hde 15 rfl
                  have xg : a.tmps[81]? = some (.bool false) := ev.got hR.1 15 81 _ rfl rfl dg
                  rw [if_pos (Reg.wanted_of rfl (Reg.yielded_of (t := 81) rfl xg))]
                  have x5 : a.tmps[5]? = some (.pointer (some ⟨PB, 0, none⟩)) := (ev.out 5 (by kernel_rfl)).trans rfl
                  clear hde ev hd HB
                  go_simp
                  exact hK _ _ ⟨hR.1.step (.inr rfl), hR.2⟩
                refine Reg.Steps.cons (k' := 26) rfl ?_ ?_
                · intro D vals a W hR hd hde ev K' hK
                  have HB := hR.2
                  have dg := Reg.dep hde 15 rfl
                  have xg : a.tmps[81]? = some (.bool false) := ev.got hR.1 15 81 _ rfl rfl dg
                  rw [if_pos (Reg.wanted_of rfl (Reg.yielded_of (t := 81) rfl xg))]
                  have d24 := Reg.dep hde 24 rfl
                  have x90 : a.tmps[90]? = some (.pointer (some ⟨PB, 0, none⟩)) := ev.got hR.1 24 90 _ rfl rfl d24
                  clear hde ev hd HB
                  go_simp
                  exact hK _ _ ⟨hR.1.step (.inr rfl), hR.2⟩
                refine Reg.Steps.cons (k' := 27) rfl ?_ ?_
                · intro D vals a W hR hd hde ev K' hK
                  have HB := hR.2
                  have dg := Reg.dep hde 15 rfl
                  have xg : a.tmps[81]? = some (.bool false) := ev.got hR.1 15 81 _ rfl rfl dg
                  rw [if_pos (Reg.wanted_of rfl (Reg.yielded_of (t := 81) rfl xg))]
                  have d25 := Reg.dep hde 25 rfl
                  have x91 : a.tmps[91]? = some (.pointer (some ⟨PB, 0, none⟩)) := ev.got hR.1 25 91 _ rfl rfl d25
                  clear hde ev hd HB
                  go_simp
                  exact hK _ _ ⟨hR.1.step (.inr rfl), hR.2⟩
                refine Reg.Steps.cons (k' := 28) rfl ?_ ?_
                · intro D vals a W hR hd hde ev K' hK
                  have HB := hR.2
                  have dg := Reg.dep hde 15 rfl
                  have xg : a.tmps[81]? = some (.bool false) := ev.got hR.1 15 81 _ rfl rfl dg
                  rw [if_pos (Reg.wanted_of rfl (Reg.yielded_of (t := 81) rfl xg))]
                  have d26 := Reg.dep hde 26 rfl
                  have x92 : a.tmps[92]? = some (.pointer (some ⟨PB, 1, none⟩)) := ev.got hR.1 26 92 _ rfl rfl d26
                  have q := (HPSW.out W (HB2V.out.trans (HB.mono HB2V.out.size))).pb.cell 1
                  clear hde ev hd HB
                  go_simp
                  exact hK _ _ ⟨hR.1.step (.inr rfl), hR.2⟩
                refine Reg.Steps.cons (k' := 29) rfl ?_ ?_
                · intro D vals a W hR hd hde ev K' hK
                  have HB := hR.2
                  have dg := Reg.dep hde 15 rfl
                  have xg : a.tmps[81]? = some (.bool false) := ev.got hR.1 15 81 _ rfl rfl dg
                  rw [if_pos (Reg.wanted_of rfl (Reg.yielded_of (t := 81) rfl xg))]
                  have x10 : a.tmps[10]? = some (.pointer (some ⟨gT, 0, none⟩)) := (ev.out 10 (by kernel_rfl)).trans rfl
                  have kt := HKT.out.below HB HKT.out.lt
                  have q0 := kt.cell 0
                  have q1 := kt.cell 1
                  have q2 := kt.cell 2
                  have q3 := kt.cell 3
                  have q4 := kt.cell 4
                  have q5 := kt.cell 5
                  clear kt
                  clear hde ev hd HB
                  go_simp
                  exact hK _ _ ⟨hR.1.step (.inr rfl), hR.2⟩
                refine Reg.Steps.cons (k' := 30) rfl ?_ ?_
                · intro D vals a W hR hd hde ev K' hK
                  have HB := hR.2
                  have dg := Reg.dep hde 15 rfl
                  have xg : a.tmps[81]? = some (.bool false) := ev.got hR.1 15 81 _ rfl rfl dg
                  rw [if_pos (Reg.wanted_of rfl (Reg.yielded_of (t := 81) rfl xg))]
                  have x9 : a.tmps[9]? = some (.pointer (some ⟨gV, 0, none⟩)) := (ev.out 9 (by kernel_rfl)).trans rfl
                  clear hde ev hd HB
                  go_simp
                  exact hK _ _ ⟨hR.1.step (.inr rfl), hR.2⟩
                refine Reg.Steps.cons (k' := 31) rfl ?_ ?_
                · intro D vals a W hR hd hde ev K' hK
                  have HB := hR.2
                  have dg := Reg.dep hde 15 rfl
                  have xg : a.tmps[81]? = some (.bool false) := ev.got hR.1 15 81 _ rfl rfl dg
                  rw [if_pos (Reg.wanted_of rfl (Reg.yielded_of (t := 81) rfl xg))]
                  have d29 := Reg.dep hde 29 rfl
                  have x95 : a.tmps[95]? = some (.pointer (some ⟨gV, 1, none⟩)) := ev.got hR.1 29 95 _ rfl rfl d29
                  have q := (HKV.out.below HB HKV.out.lt).cell 1
                  clear hde ev hd HB
                  go_simp
                  exact hK _ _ ⟨hR.1.step (.inr rfl), hR.2⟩
                refine Reg.Steps.cons (k' := 32) rfl ?_ ?_
                · intro D vals a W hR hd hde ev K' hK
                  have HB := hR.2
                  have dg := Reg.dep hde 15 rfl
                  have xg : a.tmps[81]? = some (.bool false) := ev.got hR.1 15 81 _ rfl rfl dg
                  rw [if_pos (Reg.wanted_of rfl (Reg.yielded_of (t := 81) rfl xg))]
                  have d27 := Reg.dep hde 27 rfl
                  have x93 : a.tmps[93]? = some (.pointer (some ⟨Q, 0, none⟩)) := ev.got hR.1 27 93 _ rfl rfl d27
                  have d28 := Reg.dep hde 28 rfl
                  have x94 : a.tmps[94]? = some (.agg #[.int .u64 0, .int .u64 (ta : Int), .int .u64 (tb : Int), .int .i64 0, .int .i64 0, .slice none 0 0]) := ev.got hR.1 28 94 _ rfl rfl d28
                  have d30 := Reg.dep hde 30 rfl
                  have x96 : a.tmps[96]? = some (.int .u64 (tb : Int)) := ev.got hR.1 30 96 _ rfl rfl d30
                  have CC := Lib.hid (CD4.out W (HB2V.out.trans (HB.mono HB2V.out.size)))
                  have HR1 := Lib.hid hR
                  clear hde ev hd HB hR
                  go_simp
                  refine CC.out.mono ?_
                  rintro e W1 ⟨rfl, hb⟩
                  exact hK _ _ ⟨HR1.out.1.step (.inr rfl), HR1.out.2.trans (hb.mono HR1.out.2.size)⟩
                refine Reg.Steps.cons (k' := 33) rfl ?_ ?_
                · intro D vals a W hR hd hde ev K' hK
                  have HB := hR.2
                  have dg := Reg.dep hde 15 rfl
                  have xg : a.tmps[81]? = some (.bool false) := ev.got hR.1 15 81 _ rfl rfl dg
                  rw [if_pos (Reg.wanted_of rfl (Reg.yielded_of (t := 81) rfl xg))]
                  have d23 := Reg.dep hde 23 rfl
                  have x89 : a.tmps[89]? = some (.bool de) := ev.got hR.1 23 89 _ rfl rfl d23
                  have d31 := Reg.dep hde 31 rfl
                  have x97 : a.tmps[97]? = some (.bool de) := ev.got hR.1 31 97 _ rfl rfl d31
                  clear hde ev hd HB
                  go_simp
                  exact hK _ _ ⟨hR.1.step (.inr rfl), hR.2⟩
                refine Reg.Steps.cons (k' := 34) rfl ?_ ?_
                · intro D vals a W hR hd hde ev K' hK
                  have HB := hR.2
                  have d15 := Reg.dep hde 15 rfl
                  have x81 : a.tmps[81]? = some (.bool false) := ev.got hR.1 15 81 _ rfl rfl d15
                  have d32 := Reg.dep hde 32 rfl
                  have x98 : a.tmps[98]? = some (.bool false) := ev.got hR.1 32 98 _ rfl rfl d32
                  clear hde ev hd HB
                  go_simp
                  exact hK _ _ ⟨hR.1.step (.inr rfl), hR.2⟩
                exact Reg.Steps.nil
              · intro D vals W2 hD hR
                have hB2 := hR.2
                have ev33 := hR.1 33 _ rfl (hD 33 (by decide))
                clear hR hD
                simp only [Reg.fin, Act.put, List.setIfInBounds_toArray, List.set_cons_zero, List.set_cons_succ, ev33]
                clear ev33
                generalize vals 0 = z0; generalize vals 1 = z1; generalize vals 2 = z2; generalize vals 3 = z3; generalize vals 4 = z4; generalize vals 5 = z5; generalize vals 6 = z6; generalize vals 7 = z7; generalize vals 8 = z8; generalize vals 9 = z9; generalize vals 10 = z10; generalize vals 11 = z11; generalize vals 12 = z12; generalize vals 13 = z13; generalize vals 14 = z14; generalize vals 15 = z15; generalize vals 16 = z16; generalize vals 17 = z17; generalize vals 18 = z18; generalize vals 19 = z19; generalize vals 20 = z20; generalize vals 21 = z21; generalize vals 22 = z22; generalize vals 23 = z23; generalize vals 24 = z24; generalize vals 25 = z25; generalize vals 26 = z26; generalize vals 27 = z27; generalize vals 28 = z28; generalize vals 29 = z29; generalize vals 30 = z30; generalize vals 31 = z31; generalize vals 32 = z32
                clear vals
                have HB2W := Lib.hid (HB2V.out.trans (hB2.mono HB2V.out.size))
                have HKT4 := Lib.hid (HKT.out.below hB2 HKT.out.lt)
                have HKV4 := Lib.hid (HKV.out.below hB2 HKV.out.lt)
                obtain ⟨W4, hW4⟩ : ∃ W4, W4 = W2 := ⟨_, rfl⟩
                rw [← hW4] at HB2W HKT4 HKV4 ⊢
                clear hW4 hB2 W2 HKT HKV HB2V
                have q2 := (HPSW.out W4 HB2W.out).pb.cell 2
                rw [HP.out] at q2
                simp only [List.getElem?_toArray, List.getElem?_cons_zero, List.getElem?_cons_succ] at q2
                go_wp2_with fail
                clear q2
                go_loopw [105] (fun i wi => ∃ k : Nat, k ≤ p ∧ i = .int .i64 k ∧ Below W4.heap.size W4 wi) (fun i _ => p - (intOf i).toNat)
                case atStart => exact ⟨0, by omega, rfl, Below.refl _ _⟩
                case round =>
                  obtain ⟨k, hk, rfl, hbi⟩ := hrel
                  have HBI := Lib.hid hbi
                  clear hbi
                  by_cases hkp : k < p
                  · have hkp' : (k : Int) < p := by omega
                    obtain ⟨sp, hsp⟩ : ∃ sp, sl[k]? = some sp := ⟨_, List.getElem?_eq_getElem (by rw [HP.out]; exact hkp)⟩
                    obtain ⟨gA, hgA⟩ : ∃ gA, A1 = some ⟨gA, 0, none⟩ := by
                      obtain ⟨g, cap, e, _⟩ := World.ownsRow.form HPS.out.oa (by rw [HP.out]; omega)
                      injection e with e1
                      exact ⟨g, e1⟩
                    subst hgA
                    obtain ⟨gB, hgB⟩ : ∃ gB, B1 = some ⟨gB, 0, none⟩ := by
                      obtain ⟨g, cap, e, _⟩ := World.ownsRow.form HPS.out.ob (by rw [HP.out]; omega)
                      injection e with e1
                      exact ⟨g, e1⟩
                    subst hgB
                    obtain ⟨ad3, hA3, y0, y1, y2, y3⟩ := cas_cells HCA.out (HB2W.out.trans (HBI.out.mono HB2W.out.size)) hsp HP.out
                    injection hA3 with hA3
                    subst hA3
                    simp only [add_flat] at y0 y1 y2 y3
                    have HCB0 : Hid (∀ W, Below w2.heap.size w2 W → W.cell? ⟨gB, k * 3, none⟩ = some (.int .u64 (sp.own : Int)) ∧ W.cell? ⟨gB, k * 3 + 1, none⟩ = some (.int .u64 (sp.xmax : Int)) ∧ W.cell? ⟨gB, k * 3 + 2, none⟩ = some (.slice sp.B sp.run.length sp.d)) := Lib.hid (fun W h => by
                      obtain ⟨ad4, hA4, z0, z1, z2⟩ := cbs_cells HCBL.out h hsp HP.out
                      injection hA4 with hA4
                      subst hA4
                      simp only [add_flat] at z0 z1 z2
                      exact ⟨z0, z1, z2⟩)
                    have HSPM := Lib.hid (List.mem_of_getElem? hsp)
                    clear hsp
                    obtain ⟨ow, xm, xx, run, RA, rc, RB, rd⟩ := sp
                    obtain ⟨rn, hrn⟩ : ∃ rn, run.length = rn := ⟨_, rfl⟩
                    have HCB : Hid (∀ W, Below w2.heap.size w2 W → W.cell? ⟨gB, k * 3, none⟩ = some (.int .u64 (ow : Int)) ∧ W.cell? ⟨gB, k * 3 + 1, none⟩ = some (.int .u64 (xx : Int)) ∧ W.cell? ⟨gB, k * 3 + 2, none⟩ = some (.slice RB rn rd)) := Lib.hid (by rw [← hrn]; exact HCB0.out)
                    obtain ⟨b1, hb1⟩ : ∃ b1, seesB 1 S ow xx run ta = b1 := ⟨_, rfl⟩
                    obtain ⟨b2, hb2⟩ : ∃ b2, visB 1 S ow xx run ta tb = b2 := ⟨_, rfl⟩
                    obtain ⟨fr, hfr⟩ : ∃ fr, freeE 1 S ow xx run ta tb = fr := ⟨_, rfl⟩
                    have CS1 : Hid (∀ W, Below w2.heap.size w2 W → Calls Try.prog 19 #[.pointer (some ⟨P, 0, none⟩), .agg #[.int .u64 (ow : Int), .int .u64 (xm : Int), .int .u64 (xx : Int), .slice RA rn rc], .int .u64 (ta : Int)] W fun e w' => e = .returned (.bool b1) ∧ Below W.heap.size W w') := Lib.hid (fun W h => by
                      have hps := HPSW.out W h
                      obtain ⟨F, hal⟩ := hps.ap.al
                      have := sees_any hal hps.ok (own := ow) (xmin := xm) (xmax := xx) (hps.sp _ HSPM.out).1.a HTA.out.1
                      rw [← hb1, ← hrn]
                      exact this)
                    have CS2 : Hid (∀ W, Below w2.heap.size w2 W → Calls Try.prog 20 #[.pointer (some ⟨Q, 0, none⟩), .agg #[.int .u64 (ow : Int), .int .u64 (xx : Int), .slice RB rn rd], .int .u64 (ta : Int)] W fun e w' => e = .returned (.bool b1) ∧ Below W.heap.size W w') := Lib.hid (fun W h => by
                      have hps := HPSW.out W h
                      obtain ⟨G, hrl⟩ := hps.ap.rl
                      have := rsees_any hrl (own := ow) (xmax := xx) (hps.sp _ HSPM.out).1.b HTA.out.1
                      rw [← hb1, ← hrn]
                      exact this)
                    have CV1 : Hid (∀ W, Below w2.heap.size w2 W → Calls Try.prog 21 #[.pointer (some ⟨P, 0, none⟩), .agg #[.int .u64 (ow : Int), .int .u64 (xm : Int), .int .u64 (xx : Int), .slice RA rn rc], .agg #[.int .u64 0, .int .u64 (ta : Int), .int .u64 (tb : Int), .int .i64 0, .int .i64 0, .slice none 0 0]] W fun e w' => e = .returned (.bool b2) ∧ Below W.heap.size W w') := Lib.hid (fun W h => by
                      have hps := HPSW.out W h
                      obtain ⟨F, hal⟩ := hps.ap.al
                      have := visible_any hal hps.ok (own := ow) (xmin := xm) (xmax := xx) (hps.sp _ HSPM.out).1.a HTA.out.1 HTA.out.2
                      rw [← hb2, ← hrn]
                      exact this)
                    have CV2 : Hid (∀ W, Below w2.heap.size w2 W → Calls Try.prog 22 #[.pointer (some ⟨Q, 0, none⟩), .agg #[.int .u64 (ow : Int), .int .u64 (xx : Int), .slice RB rn rd], .agg #[.int .u64 0, .int .u64 (ta : Int), .int .u64 (tb : Int), .int .i64 0, .int .i64 0, .slice none 0 0]] W fun e w' => e = .returned (.bool b2) ∧ Below W.heap.size W w') := Lib.hid (fun W h => by
                      have hps := HPSW.out W h
                      obtain ⟨G, hrl⟩ := hps.ap.rl
                      have := rvisible_any hrl (own := ow) (xmax := xx) (hps.sp _ HSPM.out).1.b HTA.out.1 HTA.out.2
                      rw [← hb2, ← hrn]
                      exact this)
                    have CF1 : Hid (∀ W, Below w2.heap.size w2 W → Calls Try.prog 23 #[.pointer (some ⟨P, 0, none⟩), .agg #[.int .u64 (ow : Int), .int .u64 (xm : Int), .int .u64 (xx : Int), .slice RA rn rc], .agg #[.int .u64 0, .int .u64 (ta : Int), .int .u64 (tb : Int), .int .i64 0, .int .i64 0, .slice none 0 0]] W fun e w' => e = .returned (.int .i64 fr) ∧ Below W.heap.size W w') := Lib.hid (fun W h => by
                      have hps := HPSW.out W h
                      obtain ⟨F, hal⟩ := hps.ap.al
                      have := free_any hal hps.ok (own := ow) (xmin := xm) (xmax := xx) (hps.sp _ HSPM.out).1.a HTA.out.1 HTA.out.2
                      rw [← hfr, ← hrn]
                      exact this)
                    have CF2 : Hid (∀ W, Below w2.heap.size w2 W → Calls Try.prog 24 #[.pointer (some ⟨Q, 0, none⟩), .agg #[.int .u64 (ow : Int), .int .u64 (xx : Int), .slice RB rn rd], .agg #[.int .u64 0, .int .u64 (ta : Int), .int .u64 (tb : Int), .int .i64 0, .int .i64 0, .slice none 0 0]] W fun e w' => e = .returned (.int .i64 fr) ∧ Below W.heap.size W w') := Lib.hid (fun W h => by
                      have hps := HPSW.out W h
                      obtain ⟨G, hrl⟩ := hps.ap.rl
                      have := rfree_any hrl (own := ow) (xmax := xx) (hps.sp _ HSPM.out).1.b HTA.out.1 HTA.out.2
                      rw [← hfr, ← hrn]
                      exact this)
                    simp only [hrn] at y3
                    clear hb1 hb2 hfr hrn HSPM HCB0
                    go_wp2_with fail
                    clear y0 y1 y2 y3
                    have HB6 : Hid (Below W4.heap.size W4 (wr.alloc (.cells #[.int .u64 (ow : Int), .int .u64 (xm : Int), .int .u64 (xx : Int), .slice RA rn rc] 48))) := Lib.hid (HBI.out.alloc HBI.out.size _)
                    have HKS : Hid (Blk (wr.alloc (.cells #[.int .u64 (ow : Int), .int .u64 (xm : Int), .int .u64 (xx : Int), .slice RA rn rc] 48)) wr.heap.size 48 #[.int .u64 (ow : Int), .int .u64 (xm : Int), .int .u64 (xx : Int), .slice RA rn rc]) := Lib.hid (Blk.new _ _ _)
                    generalize (wr.alloc (.cells #[.int .u64 (ow : Int), .int .u64 (xm : Int), .int .u64 (xx : Int), .slice RA rn rc] 48)) = V at *
                    generalize wr.heap.size = gS at *
                    have HKT := Lib.hid (HKT4.out.below HB6.out HKT4.out.lt)
                    have HKV := Lib.hid (HKV4.out.below HB6.out HKV4.out.lt)
                    have HB2V := Lib.hid (HB2W.out.trans (HB6.out.mono HB2W.out.size))
                    refine Reg.wp_region_inv_lit (by kernel_rfl) (by kernel_rfl) (fun D vals W => Reg.Fx (fun k9 => ([some (.pointer (some ⟨PB, 0, none⟩)), some (.pointer (some ⟨PB, 0, none⟩)), some (.pointer (some ⟨PB, 0, none⟩)), some (.pointer (some ⟨P, 0, none⟩)), some (.agg #[.int .u64 (ow : Int), .int .u64 (xm : Int), .int .u64 (xx : Int), .slice RA rn rc]), some (.pointer (some ⟨gV, 0, none⟩)), some (.int .u64 (ta : Int)), some (.bool b1), some (.pointer (some ⟨PB, 0, none⟩)), some (.pointer (some ⟨PB, 0, none⟩)), some (.pointer (some ⟨PB, 1, none⟩)), some (.pointer (some ⟨Q, 0, none⟩)), some (.pointer (some ⟨PB, 0, none⟩)), some (.pointer (some ⟨PB, 0, none⟩)), some (.pointer (some ⟨PB, 3, none⟩)), some (.slice (some ⟨gB, 0, none⟩) p d1), some (.int .i64 (k : Int)), some (.pointer (some ⟨gB, k * 3, none⟩)), some (.agg #[.int .u64 (ow : Int), .int .u64 (xx : Int), .slice RB rn rd]), some (.pointer (some ⟨gV, 0, none⟩)), some (.int .u64 (ta : Int)), some (.bool b1), some (.bool false), some (.bool false), some (.pointer (some ⟨PB, 0, none⟩)), some (.pointer (some ⟨PB, 0, none⟩)), some (.pointer (some ⟨PB, 0, none⟩)), some (.pointer (some ⟨P, 0, none⟩)), some (.agg #[.int .u64 (ow : Int), .int .u64 (xm : Int), .int .u64 (xx : Int), .slice RA rn rc]), some (.agg #[.int .u64 0, .int .u64 (ta : Int), .int .u64 (tb : Int), .int .i64 0, .int .i64 0, .slice none 0 0]), some (.bool b2), some (.pointer (some ⟨PB, 0, none⟩)), some (.pointer (some ⟨PB, 0, none⟩)), some (.pointer (some ⟨PB, 1, none⟩)), some (.pointer (some ⟨Q, 0, none⟩)), some (.pointer (some ⟨PB, 0, none⟩)), some (.pointer (some ⟨PB, 0, none⟩)), some (.pointer (some ⟨PB, 3, none⟩)), some (.slice (some ⟨gB, 0, none⟩) p d1), some (.int .i64 (k : Int)), some (.pointer (some ⟨gB, k * 3, none⟩)), some (.agg #[.int .u64 (ow : Int), .int .u64 (xx : Int), .slice RB rn rd]), some (.agg #[.int .u64 0, .int .u64 (ta : Int), .int .u64 (tb : Int), .int .i64 0, .int .i64 0, .slice none 0 0]), some (.bool b2), some (.bool false), some (.bool false), some (.bool false), some (.pointer (some ⟨PB, 0, none⟩)), some (.pointer (some ⟨PB, 0, none⟩)), some (.pointer (some ⟨PB, 0, none⟩)), some (.pointer (some ⟨P, 0, none⟩)), some (.agg #[.int .u64 (ow : Int), .int .u64 (xm : Int), .int .u64 (xx : Int), .slice RA rn rc]), some (.agg #[.int .u64 0, .int .u64 (ta : Int), .int .u64 (tb : Int), .int .i64 0, .int .i64 0, .slice none 0 0]), some (.int .i64 fr), some (.pointer (some ⟨PB, 0, none⟩)), some (.pointer (some ⟨PB, 0, none⟩)), some (.pointer (some ⟨PB, 1, none⟩)), some (.pointer (some ⟨Q, 0, none⟩)), some (.pointer (some ⟨PB, 0, none⟩)), some (.pointer (some ⟨PB, 0, none⟩)), some (.pointer (some ⟨PB, 3, none⟩)), some (.slice (some ⟨gB, 0, none⟩) p d1), some (.int .i64 (k : Int)), some (.pointer (some ⟨gB, k * 3, none⟩)), some (.agg #[.int .u64 (ow : Int), .int .u64 (xx : Int), .slice RB rn rd]), some (.agg #[.int .u64 0, .int .u64 (ta : Int), .int .u64 (tb : Int), .int .i64 0, .int .i64 0, .slice none 0 0]), some (.int .i64 fr), some (.bool false), some (.bool false)] : List (Option Value)).getD k9 none) D vals ∧ Below V.heap.size V W) ⟨Reg.Fx.init _ _, ⟨rfl, rfl, rfl, Nat.le_refl _, fun _ _ => rfl⟩⟩ (fun Q' => ?_) ?_
                    · refine Reg.Steps.cons (k' := 1) rfl ?_ ?_
                      · intro D vals a W hR hd hde ev K' hK
                        have HB := hR.2
                        have x5 : a.tmps[5]? = some (.pointer (some ⟨PB, 0, none⟩)) := (ev.out 5 (by kernel_rfl)).trans rfl
                        clear hde ev hd HB
                        go_simp
                        exact hK _ _ ⟨hR.1.step (.inr rfl), hR.2⟩
                      refine Reg.Steps.cons (k' := 2) rfl ?_ ?_
                      · intro D vals a W hR hd hde ev K' hK
                        have HB := hR.2
                        have d0 := Reg.dep hde 0 rfl
                        have x110 : a.tmps[110]? = some (.pointer (some ⟨PB, 0, none⟩)) := ev.got hR.1 0 110 _ rfl rfl d0
                        clear hde ev hd HB
                        go_simp
                        exact hK _ _ ⟨hR.1.step (.inr rfl), hR.2⟩
                      refine Reg.Steps.cons (k' := 3) rfl ?_ ?_
                      · intro D vals a W hR hd hde ev K' hK
                        have HB := hR.2
                        have d1 := Reg.dep hde 1 rfl
                        have x111 : a.tmps[111]? = some (.pointer (some ⟨PB, 0, none⟩)) := ev.got hR.1 1 111 _ rfl rfl d1
                        clear hde ev hd HB
                        go_simp
                        exact hK _ _ ⟨hR.1.step (.inr rfl), hR.2⟩
                      refine Reg.Steps.cons (k' := 4) rfl ?_ ?_
                      · intro D vals a W hR hd hde ev K' hK
                        have HB := hR.2
                        have d2 := Reg.dep hde 2 rfl
                        have x112 : a.tmps[112]? = some (.pointer (some ⟨PB, 0, none⟩)) := ev.got hR.1 2 112 _ rfl rfl d2
                        have q := (HPSW.out W (HB2V.out.trans (HB.mono HB2V.out.size))).pb.cell 0
                        clear hde ev hd HB
                        go_simp
                        exact hK _ _ ⟨hR.1.step (.inr rfl), hR.2⟩
                      refine Reg.Steps.cons (k' := 5) rfl ?_ ?_
                      · intro D vals a W hR hd hde ev K' hK
                        have HB := hR.2
                        have x12 : a.tmps[12]? = some (.pointer (some ⟨gS, 0, none⟩)) := (ev.out 12 (by kernel_rfl)).trans rfl
                        have ks := HKS.out.below HB HKS.out.lt
                        have q0 := ks.cell 0
                        have q1 := ks.cell 1
                        have q2 := ks.cell 2
                        have q3 := ks.cell 3
                        clear ks
                        clear hde ev hd HB
                        go_simp
                        exact hK _ _ ⟨hR.1.step (.inr rfl), hR.2⟩
                      refine Reg.Steps.cons (k' := 6) rfl ?_ ?_
                      · intro D vals a W hR hd hde ev K' hK
                        have HB := hR.2
                        have x9 : a.tmps[9]? = some (.pointer (some ⟨gV, 0, none⟩)) := (ev.out 9 (by kernel_rfl)).trans rfl
                        clear hde ev hd HB
                        go_simp
                        exact hK _ _ ⟨hR.1.step (.inr rfl), hR.2⟩
                      refine Reg.Steps.cons (k' := 7) rfl ?_ ?_
                      · intro D vals a W hR hd hde ev K' hK
                        have HB := hR.2
                        have d5 := Reg.dep hde 5 rfl
                        have x115 : a.tmps[115]? = some (.pointer (some ⟨gV, 0, none⟩)) := ev.got hR.1 5 115 _ rfl rfl d5
                        have q := (HKV.out.below HB HKV.out.lt).cell 0
                        clear hde ev hd HB
                        go_simp
                        exact hK _ _ ⟨hR.1.step (.inr rfl), hR.2⟩
                      refine Reg.Steps.cons (k' := 8) rfl ?_ ?_
                      · intro D vals a W hR hd hde ev K' hK
                        have HB := hR.2
                        have d3 := Reg.dep hde 3 rfl
                        have x113 : a.tmps[113]? = some (.pointer (some ⟨P, 0, none⟩)) := ev.got hR.1 3 113 _ rfl rfl d3
                        have d4 := Reg.dep hde 4 rfl
                        have x114 : a.tmps[114]? = some (.agg #[.int .u64 (ow : Int), .int .u64 (xm : Int), .int .u64 (xx : Int), .slice RA rn rc]) := ev.got hR.1 4 114 _ rfl rfl d4
                        have d6 := Reg.dep hde 6 rfl
                        have x116 : a.tmps[116]? = some (.int .u64 (ta : Int)) := ev.got hR.1 6 116 _ rfl rfl d6
                        have CC := Lib.hid (CS1.out W (HB2V.out.trans (HB.mono HB2V.out.size)))
                        have HR1 := Lib.hid hR
                        clear hde ev hd HB hR
                        go_simp
                        refine CC.out.mono ?_
                        rintro e W1 ⟨rfl, hb⟩
                        exact hK _ _ ⟨HR1.out.1.step (.inr rfl), HR1.out.2.trans (hb.mono HR1.out.2.size)⟩
                      refine Reg.Steps.cons (k' := 9) rfl ?_ ?_
                      · intro D vals a W hR hd hde ev K' hK
                        have HB := hR.2
                        have x5 : a.tmps[5]? = some (.pointer (some ⟨PB, 0, none⟩)) := (ev.out 5 (by kernel_rfl)).trans rfl
                        clear hde ev hd HB
                        go_simp
                        exact hK _ _ ⟨hR.1.step (.inr rfl), hR.2⟩
                      refine Reg.Steps.cons (k' := 10) rfl ?_ ?_
                      · intro D vals a W hR hd hde ev K' hK
                        have HB := hR.2
                        have d8 := Reg.dep hde 8 rfl
                        have x118 : a.tmps[118]? = some (.pointer (some ⟨PB, 0, none⟩)) := ev.got hR.1 8 118 _ rfl rfl d8
                        clear hde ev hd HB
                        go_simp
                        exact hK _ _ ⟨hR.1.step (.inr rfl), hR.2⟩
                      refine Reg.Steps.cons (k' := 11) rfl ?_ ?_
                      · intro D vals a W hR hd hde ev K' hK
                        have HB := hR.2
                        have d9 := Reg.dep hde 9 rfl
                        have x119 : a.tmps[119]? = some (.pointer (some ⟨PB, 0, none⟩)) := ev.got hR.1 9 119 _ rfl rfl d9
                        clear hde ev hd HB
                        go_simp
                        exact hK _ _ ⟨hR.1.step (.inr rfl), hR.2⟩
                      refine Reg.Steps.cons (k' := 12) rfl ?_ ?_
                      · intro D vals a W hR hd hde ev K' hK
                        have HB := hR.2
                        have d10 := Reg.dep hde 10 rfl
                        have x120 : a.tmps[120]? = some (.pointer (some ⟨PB, 1, none⟩)) := ev.got hR.1 10 120 _ rfl rfl d10
                        have q := (HPSW.out W (HB2V.out.trans (HB.mono HB2V.out.size))).pb.cell 1
                        clear hde ev hd HB
                        go_simp
                        exact hK _ _ ⟨hR.1.step (.inr rfl), hR.2⟩
                      refine Reg.Steps.cons (k' := 13) rfl ?_ ?_
                      · intro D vals a W hR hd hde ev K' hK
                        have HB := hR.2
                        have x5 : a.tmps[5]? = some (.pointer (some ⟨PB, 0, none⟩)) := (ev.out 5 (by kernel_rfl)).trans rfl
                        clear hde ev hd HB
                        go_simp
                        exact hK _ _ ⟨hR.1.step (.inr rfl), hR.2⟩
                      refine Reg.Steps.cons (k' := 14) rfl ?_ ?_
                      · intro D vals a W hR hd hde ev K' hK
                        have HB := hR.2
                        have d12 := Reg.dep hde 12 rfl
                        have x122 : a.tmps[122]? = some (.pointer (some ⟨PB, 0, none⟩)) := ev.got hR.1 12 122 _ rfl rfl d12
                        clear hde ev hd HB
                        go_simp
                        exact hK _ _ ⟨hR.1.step (.inr rfl), hR.2⟩
                      refine Reg.Steps.cons (k' := 15) rfl ?_ ?_
                      · intro D vals a W hR hd hde ev K' hK
                        have HB := hR.2
                        have d13 := Reg.dep hde 13 rfl
                        have x123 : a.tmps[123]? = some (.pointer (some ⟨PB, 0, none⟩)) := ev.got hR.1 13 123 _ rfl rfl d13
                        clear hde ev hd HB
                        go_simp
                        exact hK _ _ ⟨hR.1.step (.inr rfl), hR.2⟩
                      refine Reg.Steps.cons (k' := 16) rfl ?_ ?_
                      · intro D vals a W hR hd hde ev K' hK
                        have HB := hR.2
                        have d14 := Reg.dep hde 14 rfl
                        have x124 : a.tmps[124]? = some (.pointer (some ⟨PB, 3, none⟩)) := ev.got hR.1 14 124 _ rfl rfl d14
                        have q := (HPSW.out W (HB2V.out.trans (HB.mono HB2V.out.size))).pb.cell 3
                        rw [HP.out] at q
                        clear hde ev hd HB
                        go_simp
                        exact hK _ _ ⟨hR.1.step (.inr rfl), hR.2⟩
                      refine Reg.Steps.cons (k' := 17) rfl ?_ ?_
                      · intro D vals a W hR hd hde ev K' hK
                        have HB := hR.2
                        have x11 : a.tmps[11]? = some (.int .i64 (k : Int)) := (ev.out 11 (by kernel_rfl)).trans rfl
                        clear hde ev hd HB
                        go_simp
                        exact hK _ _ ⟨hR.1.step (.inr rfl), hR.2⟩
                      refine Reg.Steps.cons (k' := 18) rfl ?_ ?_
                      · intro D vals a W hR hd hde ev K' hK
                        have HB := hR.2
                        have d15 := Reg.dep hde 15 rfl
                        have x125 : a.tmps[125]? = some (.slice (some ⟨gB, 0, none⟩) p d1) := ev.got hR.1 15 125 _ rfl rfl d15
                        have d16 := Reg.dep hde 16 rfl
                        have x126 : a.tmps[126]? = some (.int .i64 (k : Int)) := ev.got hR.1 16 126 _ rfl rfl d16
                        clear hde ev hd HB
                        go_simp
                        exact hK _ _ ⟨hR.1.step (.inr rfl), hR.2⟩
                      refine Reg.Steps.cons (k' := 19) rfl ?_ ?_
                      · intro D vals a W hR hd hde ev K' hK
                        have HB := hR.2
                        have d17 := Reg.dep hde 17 rfl
                        have x127 : a.tmps[127]? = some (.pointer (some ⟨gB, k * 3, none⟩)) := ev.got hR.1 17 127 _ rfl rfl d17
                        have kb := HCB.out W (HB2V.out.trans (HB.mono HB2V.out.size))
                        have q0 := kb.1
                        have q1 := kb.2.1
                        have q2 := kb.2.2
                        clear kb
                        clear hde ev hd HB
                        go_simp
                        exact hK _ _ ⟨hR.1.step (.inr rfl), hR.2⟩
                      refine Reg.Steps.cons (k' := 20) rfl ?_ ?_
                      · intro D vals a W hR hd hde ev K' hK
                        have HB := hR.2
                        have x9 : a.tmps[9]? = some (.pointer (some ⟨gV, 0, none⟩)) := (ev.out 9 (by kernel_rfl)).trans rfl
                        clear hde ev hd HB
                        go_simp
                        exact hK _ _ ⟨hR.1.step (.inr rfl), hR.2⟩
                      refine Reg.Steps.cons (k' := 21) rfl ?_ ?_
                      · intro D vals a W hR hd hde ev K' hK
                        have HB := hR.2
                        have d19 := Reg.dep hde 19 rfl
                        have x129 : a.tmps[129]? = some (.pointer (some ⟨gV, 0, none⟩)) := ev.got hR.1 19 129 _ rfl rfl d19
                        have q := (HKV.out.below HB HKV.out.lt).cell 0
                        clear hde ev hd HB
                        go_simp
                        exact hK _ _ ⟨hR.1.step (.inr rfl), hR.2⟩
                      refine Reg.Steps.cons (k' := 22) rfl ?_ ?_
                      · intro D vals a W hR hd hde ev K' hK
                        have HB := hR.2
                        have d11 := Reg.dep hde 11 rfl
                        have x121 : a.tmps[121]? = some (.pointer (some ⟨Q, 0, none⟩)) := ev.got hR.1 11 121 _ rfl rfl d11
                        have d18 := Reg.dep hde 18 rfl
                        have x128 : a.tmps[128]? = some (.agg #[.int .u64 (ow : Int), .int .u64 (xx : Int), .slice RB rn rd]) := ev.got hR.1 18 128 _ rfl rfl d18
                        have d20 := Reg.dep hde 20 rfl
                        have x130 : a.tmps[130]? = some (.int .u64 (ta : Int)) := ev.got hR.1 20 130 _ rfl rfl d20
                        have CC := Lib.hid (CS2.out W (HB2V.out.trans (HB.mono HB2V.out.size)))
                        have HR1 := Lib.hid hR
                        clear hde ev hd HB hR
                        go_simp
                        refine CC.out.mono ?_
                        rintro e W1 ⟨rfl, hb⟩
                        exact hK _ _ ⟨HR1.out.1.step (.inr rfl), HR1.out.2.trans (hb.mono HR1.out.2.size)⟩
                      refine Reg.Steps.cons (k' := 23) rfl ?_ ?_
                      · intro D vals a W hR hd hde ev K' hK
                        have HB := hR.2
                        have d7 := Reg.dep hde 7 rfl
                        have x117 : a.tmps[117]? = some (.bool b1) := ev.got hR.1 7 117 _ rfl rfl d7
                        have d21 := Reg.dep hde 21 rfl
                        have x131 : a.tmps[131]? = some (.bool b1) := ev.got hR.1 21 131 _ rfl rfl d21
                        clear hde ev hd HB
                        go_simp
                        exact hK _ _ ⟨hR.1.step (.inr rfl), hR.2⟩
                      refine Reg.Steps.cons (k' := 24) rfl ?_ ?_
                      · intro D vals a W hR hd hde ev K' hK
                        have HB := hR.2
                        have d22 := Reg.dep hde 22 rfl
                        have x132 : a.tmps[132]? = some (.bool false) := ev.got hR.1 22 132 _ rfl rfl d22
                        clear hde ev hd HB
                        go_simp
                        exact hK _ _ ⟨hR.1.step (.inr rfl), hR.2⟩
                      refine Reg.Steps.cons (k' := 25) rfl ?_ ?_
                      · intro D vals a W hR hd hde ev K' hK
                        have HB := hR.2
                        have dg := Reg.dep hde 23 rfl
                        have xg : a.tmps[133]? = some (.bool false) := ev.got hR.1 23 133 _ rfl rfl dg
                        rw [if_pos (Reg.wanted_of rfl (Reg.yielded_of (t := 133) rfl xg))]
                        have x5 : a.tmps[5]? = some (.pointer (some ⟨PB, 0, none⟩)) := (ev.out 5 (by kernel_rfl)).trans rfl
                        clear hde ev hd HB
                        go_simp
                        exact hK _ _ ⟨hR.1.step (.inr rfl), hR.2⟩
                      refine Reg.Steps.cons (k' := 26) rfl ?_ ?_
                      · intro D vals a W hR hd hde ev K' hK
                        have HB := hR.2
                        have dg := Reg.dep hde 23 rfl
                        have xg : a.tmps[133]? = some (.bool false) := ev.got hR.1 23 133 _ rfl rfl dg
                        rw [if_pos (Reg.wanted_of rfl (Reg.yielded_of (t := 133) rfl xg))]
                        have d24 := Reg.dep hde 24 rfl
                        have x134 : a.tmps[134]? = some (.pointer (some ⟨PB, 0, none⟩)) := ev.got hR.1 24 134 _ rfl rfl d24
                        clear hde ev hd HB
                        go_simp
                        exact hK _ _ ⟨hR.1.step (.inr rfl), hR.2⟩
                      refine Reg.Steps.cons (k' := 27) rfl ?_ ?_
                      · intro D vals a W hR hd hde ev K' hK
                        have HB := hR.2
                        have dg := Reg.dep hde 23 rfl
                        have xg : a.tmps[133]? = some (.bool false) := ev.got hR.1 23 133 _ rfl rfl dg
                        rw [if_pos (Reg.wanted_of rfl (Reg.yielded_of (t := 133) rfl xg))]
                        have d25 := Reg.dep hde 25 rfl
                        have x135 : a.tmps[135]? = some (.pointer (some ⟨PB, 0, none⟩)) := ev.got hR.1 25 135 _ rfl rfl d25
                        clear hde ev hd HB
                        go_simp
                        exact hK _ _ ⟨hR.1.step (.inr rfl), hR.2⟩
                      refine Reg.Steps.cons (k' := 28) rfl ?_ ?_
                      · intro D vals a W hR hd hde ev K' hK
                        have HB := hR.2
                        have dg := Reg.dep hde 23 rfl
                        have xg : a.tmps[133]? = some (.bool false) := ev.got hR.1 23 133 _ rfl rfl dg
                        rw [if_pos (Reg.wanted_of rfl (Reg.yielded_of (t := 133) rfl xg))]
                        have d26 := Reg.dep hde 26 rfl
                        have x136 : a.tmps[136]? = some (.pointer (some ⟨PB, 0, none⟩)) := ev.got hR.1 26 136 _ rfl rfl d26
                        have q := (HPSW.out W (HB2V.out.trans (HB.mono HB2V.out.size))).pb.cell 0
                        clear hde ev hd HB
                        go_simp
                        exact hK _ _ ⟨hR.1.step (.inr rfl), hR.2⟩
                      refine Reg.Steps.cons (k' := 29) rfl ?_ ?_
                      · intro D vals a W hR hd hde ev K' hK
                        have HB := hR.2
                        have dg := Reg.dep hde 23 rfl
                        have xg : a.tmps[133]? = some (.bool false) := ev.got hR.1 23 133 _ rfl rfl dg
                        rw [if_pos (Reg.wanted_of rfl (Reg.yielded_of (t := 133) rfl xg))]
                        have x12 : a.tmps[12]? = some (.pointer (some ⟨gS, 0, none⟩)) := (ev.out 12 (by kernel_rfl)).trans rfl
                        have ks := HKS.out.below HB HKS.out.lt
                        have q0 := ks.cell 0
                        have q1 := ks.cell 1
                        have q2 := ks.cell 2
                        have q3 := ks.cell 3
                        clear ks
                        clear hde ev hd HB
                        go_simp
                        exact hK _ _ ⟨hR.1.step (.inr rfl), hR.2⟩
                      refine Reg.Steps.cons (k' := 30) rfl ?_ ?_
                      · intro D vals a W hR hd hde ev K' hK
                        have HB := hR.2
                        have dg := Reg.dep hde 23 rfl
                        have xg : a.tmps[133]? = some (.bool false) := ev.got hR.1 23 133 _ rfl rfl dg
                        rw [if_pos (Reg.wanted_of rfl (Reg.yielded_of (t := 133) rfl xg))]
                        have x10 : a.tmps[10]? = some (.pointer (some ⟨gT, 0, none⟩)) := (ev.out 10 (by kernel_rfl)).trans rfl
                        have kt := HKT.out.below HB HKT.out.lt
                        have q0 := kt.cell 0
                        have q1 := kt.cell 1
                        have q2 := kt.cell 2
                        have q3 := kt.cell 3
                        have q4 := kt.cell 4
                        have q5 := kt.cell 5
                        clear kt
                        clear hde ev hd HB
                        go_simp
                        exact hK _ _ ⟨hR.1.step (.inr rfl), hR.2⟩
                      refine Reg.Steps.cons (k' := 31) rfl ?_ ?_
                      · intro D vals a W hR hd hde ev K' hK
                        have HB := hR.2
                        have dg := Reg.dep hde 23 rfl
                        have xg : a.tmps[133]? = some (.bool false) := ev.got hR.1 23 133 _ rfl rfl dg
                        rw [if_pos (Reg.wanted_of rfl (Reg.yielded_of (t := 133) rfl xg))]
                        have d27 := Reg.dep hde 27 rfl
                        have x137 : a.tmps[137]? = some (.pointer (some ⟨P, 0, none⟩)) := ev.got hR.1 27 137 _ rfl rfl d27
                        have d28 := Reg.dep hde 28 rfl
                        have x138 : a.tmps[138]? = some (.agg #[.int .u64 (ow : Int), .int .u64 (xm : Int), .int .u64 (xx : Int), .slice RA rn rc]) := ev.got hR.1 28 138 _ rfl rfl d28
                        have d29 := Reg.dep hde 29 rfl
                        have x139 : a.tmps[139]? = some (.agg #[.int .u64 0, .int .u64 (ta : Int), .int .u64 (tb : Int), .int .i64 0, .int .i64 0, .slice none 0 0]) := ev.got hR.1 29 139 _ rfl rfl d29
                        have CC := Lib.hid (CV1.out W (HB2V.out.trans (HB.mono HB2V.out.size)))
                        have HR1 := Lib.hid hR
                        clear hde ev hd HB hR
                        go_simp
                        refine CC.out.mono ?_
                        rintro e W1 ⟨rfl, hb⟩
                        exact hK _ _ ⟨HR1.out.1.step (.inr rfl), HR1.out.2.trans (hb.mono HR1.out.2.size)⟩
                      refine Reg.Steps.cons (k' := 32) rfl ?_ ?_
                      · intro D vals a W hR hd hde ev K' hK
                        have HB := hR.2
                        have dg := Reg.dep hde 23 rfl
                        have xg : a.tmps[133]? = some (.bool false) := ev.got hR.1 23 133 _ rfl rfl dg
                        rw [if_pos (Reg.wanted_of rfl (Reg.yielded_of (t := 133) rfl xg))]
                        have x5 : a.tmps[5]? = some (.pointer (some ⟨PB, 0, none⟩)) := (ev.out 5 (by kernel_rfl)).trans rfl
                        clear hde ev hd HB
                        go_simp
                        exact hK _ _ ⟨hR.1.step (.inr rfl), hR.2⟩
                      refine Reg.Steps.cons (k' := 33) rfl ?_ ?_
                      · intro D vals a W hR hd hde ev K' hK
                        have HB := hR.2
                        have dg := Reg.dep hde 23 rfl
                        have xg : a.tmps[133]? = some (.bool false) := ev.got hR.1 23 133 _ rfl rfl dg
                        rw [if_pos (Reg.wanted_of rfl (Reg.yielded_of (t := 133) rfl xg))]
                        have d31 := Reg.dep hde 31 rfl
                        have x141 : a.tmps[141]? = some (.pointer (some ⟨PB, 0, none⟩)) := ev.got hR.1 31 141 _ rfl rfl d31
                        clear hde ev hd HB
                        go_simp
                        exact hK _ _ ⟨hR.1.step (.inr rfl), hR.2⟩
                      refine Reg.Steps.cons (k' := 34) rfl ?_ ?_
                      · intro D vals a W hR hd hde ev K' hK
                        have HB := hR.2
                        have dg := Reg.dep hde 23 rfl
                        have xg : a.tmps[133]? = some (.bool false) := ev.got hR.1 23 133 _ rfl rfl dg
                        rw [if_pos (Reg.wanted_of rfl (Reg.yielded_of (t := 133) rfl xg))]
                        have d32 := Reg.dep hde 32 rfl
                        have x142 : a.tmps[142]? = some (.pointer (some ⟨PB, 0, none⟩)) := ev.got hR.1 32 142 _ rfl rfl d32
                        clear hde ev hd HB
                        go_simp
                        exact hK _ _ ⟨hR.1.step (.inr rfl), hR.2⟩
                      refine Reg.Steps.cons (k' := 35) rfl ?_ ?_
                      · intro D vals a W hR hd hde ev K' hK
                        have HB := hR.2
                        have dg := Reg.dep hde 23 rfl
                        have xg : a.tmps[133]? = some (.bool false) := ev.got hR.1 23 133 _ rfl rfl dg
                        rw [if_pos (Reg.wanted_of rfl (Reg.yielded_of (t := 133) rfl xg))]
                        have d33 := Reg.dep hde 33 rfl
                        have x143 : a.tmps[143]? = some (.pointer (some ⟨PB, 1, none⟩)) := ev.got hR.1 33 143 _ rfl rfl d33
                        have q := (HPSW.out W (HB2V.out.trans (HB.mono HB2V.out.size))).pb.cell 1
                        clear hde ev hd HB
                        go_simp
                        exact hK _ _ ⟨hR.1.step (.inr rfl), hR.2⟩
                      refine Reg.Steps.cons (k' := 36) rfl ?_ ?_
                      · intro D vals a W hR hd hde ev K' hK
                        have HB := hR.2
                        have dg := Reg.dep hde 23 rfl
                        have xg : a.tmps[133]? = some (.bool false) := ev.got hR.1 23 133 _ rfl rfl dg
                        rw [if_pos (Reg.wanted_of rfl (Reg.yielded_of (t := 133) rfl xg))]
                        have x5 : a.tmps[5]? = some (.pointer (some ⟨PB, 0, none⟩)) := (ev.out 5 (by kernel_rfl)).trans rfl
                        clear hde ev hd HB
                        go_simp
                        exact hK _ _ ⟨hR.1.step (.inr rfl), hR.2⟩
                      refine Reg.Steps.cons (k' := 37) rfl ?_ ?_
                      · intro D vals a W hR hd hde ev K' hK
                        have HB := hR.2
                        have dg := Reg.dep hde 23 rfl
                        have xg : a.tmps[133]? = some (.bool false) := ev.got hR.1 23 133 _ rfl rfl dg
                        rw [if_pos (Reg.wanted_of rfl (Reg.yielded_of (t := 133) rfl xg))]
                        have d35 := Reg.dep hde 35 rfl
                        have x145 : a.tmps[145]? = some (.pointer (some ⟨PB, 0, none⟩)) := ev.got hR.1 35 145 _ rfl rfl d35
                        clear hde ev hd HB
                        go_simp
                        exact hK _ _ ⟨hR.1.step (.inr rfl), hR.2⟩
                      refine Reg.Steps.cons (k' := 38) rfl ?_ ?_
                      · intro D vals a W hR hd hde ev K' hK
                        have HB := hR.2
                        have dg := Reg.dep hde 23 rfl
                        have xg : a.tmps[133]? = some (.bool false) := ev.got hR.1 23 133 _ rfl rfl dg
                        rw [if_pos (Reg.wanted_of rfl (Reg.yielded_of (t := 133) rfl xg))]
                        have d36 := Reg.dep hde 36 rfl
                        have x146 : a.tmps[146]? = some (.pointer (some ⟨PB, 0, none⟩)) := ev.got hR.1 36 146 _ rfl rfl d36
                        clear hde ev hd HB
                        go_simp
                        exact hK _ _ ⟨hR.1.step (.inr rfl), hR.2⟩
                      refine Reg.Steps.cons (k' := 39) rfl ?_ ?_
                      · intro D vals a W hR hd hde ev K' hK
                        have HB := hR.2
                        have dg := Reg.dep hde 23 rfl
                        have xg : a.tmps[133]? = some (.bool false) := ev.got hR.1 23 133 _ rfl rfl dg
                        rw [if_pos (Reg.wanted_of rfl (Reg.yielded_of (t := 133) rfl xg))]
                        have d37 := Reg.dep hde 37 rfl
                        have x147 : a.tmps[147]? = some (.pointer (some ⟨PB, 3, none⟩)) := ev.got hR.1 37 147 _ rfl rfl d37
                        have q := (HPSW.out W (HB2V.out.trans (HB.mono HB2V.out.size))).pb.cell 3
                        rw [HP.out] at q
                        clear hde ev hd HB
                        go_simp
                        exact hK _ _ ⟨hR.1.step (.inr rfl), hR.2⟩
                      refine Reg.Steps.cons (k' := 40) rfl ?_ ?_
                      · intro D vals a W hR hd hde ev K' hK
                        have HB := hR.2
                        have dg := Reg.dep hde 23 rfl
                        have xg : a.tmps[133]? = some (.bool false) := ev.got hR.1 23 133 _ rfl rfl dg
                        rw [if_pos (Reg.wanted_of rfl (Reg.yielded_of (t := 133) rfl xg))]
                        have x11 : a.tmps[11]? = some (.int .i64 (k : Int)) := (ev.out 11 (by kernel_rfl)).trans rfl
                        clear hde ev hd HB
                        go_simp
                        exact hK _ _ ⟨hR.1.step (.inr rfl), hR.2⟩
                      refine Reg.Steps.cons (k' := 41) rfl ?_ ?_
                      · intro D vals a W hR hd hde ev K' hK
                        have HB := hR.2
                        have dg := Reg.dep hde 23 rfl
                        have xg : a.tmps[133]? = some (.bool false) := ev.got hR.1 23 133 _ rfl rfl dg
                        rw [if_pos (Reg.wanted_of rfl (Reg.yielded_of (t := 133) rfl xg))]
                        have d38 := Reg.dep hde 38 rfl
                        have x148 : a.tmps[148]? = some (.slice (some ⟨gB, 0, none⟩) p d1) := ev.got hR.1 38 148 _ rfl rfl d38
                        have d39 := Reg.dep hde 39 rfl
                        have x149 : a.tmps[149]? = some (.int .i64 (k : Int)) := ev.got hR.1 39 149 _ rfl rfl d39
                        clear hde ev hd HB
                        go_simp
                        exact hK _ _ ⟨hR.1.step (.inr rfl), hR.2⟩
                      refine Reg.Steps.cons (k' := 42) rfl ?_ ?_
                      · intro D vals a W hR hd hde ev K' hK
                        have HB := hR.2
                        have dg := Reg.dep hde 23 rfl
                        have xg : a.tmps[133]? = some (.bool false) := ev.got hR.1 23 133 _ rfl rfl dg
                        rw [if_pos (Reg.wanted_of rfl (Reg.yielded_of (t := 133) rfl xg))]
                        have d40 := Reg.dep hde 40 rfl
                        have x150 : a.tmps[150]? = some (.pointer (some ⟨gB, k * 3, none⟩)) := ev.got hR.1 40 150 _ rfl rfl d40
                        have kb := HCB.out W (HB2V.out.trans (HB.mono HB2V.out.size))
                        have q0 := kb.1
                        have q1 := kb.2.1
                        have q2 := kb.2.2
                        clear kb
                        clear hde ev hd HB
                        go_simp
                        exact hK _ _ ⟨hR.1.step (.inr rfl), hR.2⟩
                      refine Reg.Steps.cons (k' := 43) rfl ?_ ?_
                      · intro D vals a W hR hd hde ev K' hK
                        have HB := hR.2
                        have dg := Reg.dep hde 23 rfl
                        have xg : a.tmps[133]? = some (.bool false) := ev.got hR.1 23 133 _ rfl rfl dg
                        rw [if_pos (Reg.wanted_of rfl (Reg.yielded_of (t := 133) rfl xg))]
                        have x10 : a.tmps[10]? = some (.pointer (some ⟨gT, 0, none⟩)) := (ev.out 10 (by kernel_rfl)).trans rfl
                        have kt := HKT.out.below HB HKT.out.lt
                        have q0 := kt.cell 0
                        have q1 := kt.cell 1
                        have q2 := kt.cell 2
                        have q3 := kt.cell 3
                        have q4 := kt.cell 4
                        have q5 := kt.cell 5
                        clear kt
                        clear hde ev hd HB
                        go_simp
                        exact hK _ _ ⟨hR.1.step (.inr rfl), hR.2⟩
                      refine Reg.Steps.cons (k' := 44) rfl ?_ ?_
                      · intro D vals a W hR hd hde ev K' hK
                        have HB := hR.2
                        have dg := Reg.dep hde 23 rfl
                        have xg : a.tmps[133]? = some (.bool false) := ev.got hR.1 23 133 _ rfl rfl dg
                        rw [if_pos (Reg.wanted_of rfl (Reg.yielded_of (t := 133) rfl xg))]
                        have d34 := Reg.dep hde 34 rfl
                        have x144 : a.tmps[144]? = some (.pointer (some ⟨Q, 0, none⟩)) := ev.got hR.1 34 144 _ rfl rfl d34
                        have d41 := Reg.dep hde 41 rfl
                        have x151 : a.tmps[151]? = some (.agg #[.int .u64 (ow : Int), .int .u64 (xx : Int), .slice RB rn rd]) := ev.got hR.1 41 151 _ rfl rfl d41
                        have d42 := Reg.dep hde 42 rfl
                        have x152 : a.tmps[152]? = some (.agg #[.int .u64 0, .int .u64 (ta : Int), .int .u64 (tb : Int), .int .i64 0, .int .i64 0, .slice none 0 0]) := ev.got hR.1 42 152 _ rfl rfl d42
                        have CC := Lib.hid (CV2.out W (HB2V.out.trans (HB.mono HB2V.out.size)))
                        have HR1 := Lib.hid hR
                        clear hde ev hd HB hR
                        go_simp
                        refine CC.out.mono ?_
                        rintro e W1 ⟨rfl, hb⟩
                        exact hK _ _ ⟨HR1.out.1.step (.inr rfl), HR1.out.2.trans (hb.mono HR1.out.2.size)⟩
                      refine Reg.Steps.cons (k' := 45) rfl ?_ ?_
                      · intro D vals a W hR hd hde ev K' hK
                        have HB := hR.2
                        have dg := Reg.dep hde 23 rfl
                        have xg : a.tmps[133]? = some (.bool false) := ev.got hR.1 23 133 _ rfl rfl dg
                        rw [if_pos (Reg.wanted_of rfl (Reg.yielded_of (t := 133) rfl xg))]
                        have d30 := Reg.dep hde 30 rfl
                        have x140 : a.tmps[140]? = some (.bool b2) := ev.got hR.1 30 140 _ rfl rfl d30
                        have d43 := Reg.dep hde 43 rfl
                        have x153 : a.tmps[153]? = some (.bool b2) := ev.got hR.1 43 153 _ rfl rfl d43
                        clear hde ev hd HB
                        go_simp
                        exact hK _ _ ⟨hR.1.step (.inr rfl), hR.2⟩
                      refine Reg.Steps.cons (k' := 46) rfl ?_ ?_
                      · intro D vals a W hR hd hde ev K' hK
                        have HB := hR.2
                        have d23 := Reg.dep hde 23 rfl
                        have x133 : a.tmps[133]? = some (.bool false) := ev.got hR.1 23 133 _ rfl rfl d23
                        have d44 := Reg.dep hde 44 rfl
                        have x154 : a.tmps[154]? = some (.bool false) := ev.got hR.1 44 154 _ rfl rfl d44
                        clear hde ev hd HB
                        go_simp
                        exact hK _ _ ⟨hR.1.step (.inr rfl), hR.2⟩
                      refine Reg.Steps.cons (k' := 47) rfl ?_ ?_
                      · intro D vals a W hR hd hde ev K' hK
                        have HB := hR.2
                        have d45 := Reg.dep hde 45 rfl
                        have x155 : a.tmps[155]? = some (.bool false) := ev.got hR.1 45 155 _ rfl rfl d45
                        clear hde ev hd HB
                        go_simp
                        exact hK _ _ ⟨hR.1.step (.inr rfl), hR.2⟩
                      refine Reg.Steps.cons (k' := 48) rfl ?_ ?_
                      · intro D vals a W hR hd hde ev K' hK
                        have HB := hR.2
                        have dg := Reg.dep hde 46 rfl
                        have xg : a.tmps[156]? = some (.bool false) := ev.got hR.1 46 156 _ rfl rfl dg
                        rw [if_pos (Reg.wanted_of rfl (Reg.yielded_of (t := 156) rfl xg))]
                        have x5 : a.tmps[5]? = some (.pointer (some ⟨PB, 0, none⟩)) := (ev.out 5 (by kernel_rfl)).trans rfl
                        clear hde ev hd HB
                        go_simp
                        exact hK _ _ ⟨hR.1.step (.inr rfl), hR.2⟩
                      refine Reg.Steps.cons (k' := 49) rfl ?_ ?_
                      · intro D vals a W hR hd hde ev K' hK
                        have HB := hR.2
                        have dg := Reg.dep hde 46 rfl
                        have xg : a.tmps[156]? = some (.bool false) := ev.got hR.1 46 156 _ rfl rfl dg
                        rw [if_pos (Reg.wanted_of rfl (Reg.yielded_of (t := 156) rfl xg))]
                        have d47 := Reg.dep hde 47 rfl
                        have x157 : a.tmps[157]? = some (.pointer (some ⟨PB, 0, none⟩)) := ev.got hR.1 47 157 _ rfl rfl d47
                        clear hde ev hd HB
                        go_simp
                        exact hK _ _ ⟨hR.1.step (.inr rfl), hR.2⟩
                      refine Reg.Steps.cons (k' := 50) rfl ?_ ?_
                      · intro D vals a W hR hd hde ev K' hK
                        have HB := hR.2
                        have dg := Reg.dep hde 46 rfl
                        have xg : a.tmps[156]? = some (.bool false) := ev.got hR.1 46 156 _ rfl rfl dg
                        rw [if_pos (Reg.wanted_of rfl (Reg.yielded_of (t := 156) rfl xg))]
                        have d48 := Reg.dep hde 48 rfl
                        have x158 : a.tmps[158]? = some (.pointer (some ⟨PB, 0, none⟩)) := ev.got hR.1 48 158 _ rfl rfl d48
                        clear hde ev hd HB
                        go_simp
                        exact hK _ _ ⟨hR.1.step (.inr rfl), hR.2⟩
                      refine Reg.Steps.cons (k' := 51) rfl ?_ ?_
                      · intro D vals a W hR hd hde ev K' hK
                        have HB := hR.2
                        have dg := Reg.dep hde 46 rfl
                        have xg : a.tmps[156]? = some (.bool false) := ev.got hR.1 46 156 _ rfl rfl dg
                        rw [if_pos (Reg.wanted_of rfl (Reg.yielded_of (t := 156) rfl xg))]
                        have d49 := Reg.dep hde 49 rfl
                        have x159 : a.tmps[159]? = some (.pointer (some ⟨PB, 0, none⟩)) := ev.got hR.1 49 159 _ rfl rfl d49
                        have q := (HPSW.out W (HB2V.out.trans (HB.mono HB2V.out.size))).pb.cell 0
                        clear hde ev hd HB
                        go_simp
                        exact hK _ _ ⟨hR.1.step (.inr rfl), hR.2⟩
                      refine Reg.Steps.cons (k' := 52) rfl ?_ ?_
                      · intro D vals a W hR hd hde ev K' hK
                        have HB := hR.2
                        have dg := Reg.dep hde 46 rfl
                        have xg : a.tmps[156]? = some (.bool false) := ev.got hR.1 46 156 _ rfl rfl dg
                        rw [if_pos (Reg.wanted_of rfl (Reg.yielded_of (t := 156) rfl xg))]
                        have x12 : a.tmps[12]? = some (.pointer (some ⟨gS, 0, none⟩)) := (ev.out 12 (by kernel_rfl)).trans rfl
                        have ks := HKS.out.below HB HKS.out.lt
                        have q0 := ks.cell 0
                        have q1 := ks.cell 1
                        have q2 := ks.cell 2
                        have q3 := ks.cell 3
                        clear ks
                        clear hde ev hd HB
                        go_simp
                        exact hK _ _ ⟨hR.1.step (.inr rfl), hR.2⟩
                      refine Reg.Steps.cons (k' := 53) rfl ?_ ?_
                      · intro D vals a W hR hd hde ev K' hK
                        have HB := hR.2
                        have dg := Reg.dep hde 46 rfl
                        have xg : a.tmps[156]? = some (.bool false) := ev.got hR.1 46 156 _ rfl rfl dg
                        rw [if_pos (Reg.wanted_of rfl (Reg.yielded_of (t := 156) rfl xg))]
                        have x10 : a.tmps[10]? = some (.pointer (some ⟨gT, 0, none⟩)) := (ev.out 10 (by kernel_rfl)).trans rfl
                        have kt := HKT.out.below HB HKT.out.lt
                        have q0 := kt.cell 0
                        have q1 := kt.cell 1
                        have q2 := kt.cell 2
                        have q3 := kt.cell 3
                        have q4 := kt.cell 4
                        have q5 := kt.cell 5
                        clear kt
                        clear hde ev hd HB
                        go_simp
                        exact hK _ _ ⟨hR.1.step (.inr rfl), hR.2⟩
                      refine Reg.Steps.cons (k' := 54) rfl ?_ ?_
                      · intro D vals a W hR hd hde ev K' hK
                        have HB := hR.2
                        have dg := Reg.dep hde 46 rfl
                        have xg : a.tmps[156]? = some (.bool false) := ev.got hR.1 46 156 _ rfl rfl dg
                        rw [if_pos (Reg.wanted_of rfl (Reg.yielded_of (t := 156) rfl xg))]
                        have d50 := Reg.dep hde 50 rfl
                        have x160 : a.tmps[160]? = some (.pointer (some ⟨P, 0, none⟩)) := ev.got hR.1 50 160 _ rfl rfl d50
                        have d51 := Reg.dep hde 51 rfl
                        have x161 : a.tmps[161]? = some (.agg #[.int .u64 (ow : Int), .int .u64 (xm : Int), .int .u64 (xx : Int), .slice RA rn rc]) := ev.got hR.1 51 161 _ rfl rfl d51
                        have d52 := Reg.dep hde 52 rfl
                        have x162 : a.tmps[162]? = some (.agg #[.int .u64 0, .int .u64 (ta : Int), .int .u64 (tb : Int), .int .i64 0, .int .i64 0, .slice none 0 0]) := ev.got hR.1 52 162 _ rfl rfl d52
                        have CC := Lib.hid (CF1.out W (HB2V.out.trans (HB.mono HB2V.out.size)))
                        have HR1 := Lib.hid hR
                        clear hde ev hd HB hR
                        go_simp
                        refine CC.out.mono ?_
                        rintro e W1 ⟨rfl, hb⟩
                        exact hK _ _ ⟨HR1.out.1.step (.inr rfl), HR1.out.2.trans (hb.mono HR1.out.2.size)⟩
                      refine Reg.Steps.cons (k' := 55) rfl ?_ ?_
                      · intro D vals a W hR hd hde ev K' hK
                        have HB := hR.2
                        have dg := Reg.dep hde 46 rfl
                        have xg : a.tmps[156]? = some (.bool false) := ev.got hR.1 46 156 _ rfl rfl dg
                        rw [if_pos (Reg.wanted_of rfl (Reg.yielded_of (t := 156) rfl xg))]
                        have x5 : a.tmps[5]? = some (.pointer (some ⟨PB, 0, none⟩)) := (ev.out 5 (by kernel_rfl)).trans rfl
                        clear hde ev hd HB
                        go_simp
                        exact hK _ _ ⟨hR.1.step (.inr rfl), hR.2⟩
                      refine Reg.Steps.cons (k' := 56) rfl ?_ ?_
                      · intro D vals a W hR hd hde ev K' hK
                        have HB := hR.2
                        have dg := Reg.dep hde 46 rfl
                        have xg : a.tmps[156]? = some (.bool false) := ev.got hR.1 46 156 _ rfl rfl dg
                        rw [if_pos (Reg.wanted_of rfl (Reg.yielded_of (t := 156) rfl xg))]
                        have d54 := Reg.dep hde 54 rfl
                        have x164 : a.tmps[164]? = some (.pointer (some ⟨PB, 0, none⟩)) := ev.got hR.1 54 164 _ rfl rfl d54
                        clear hde ev hd HB
                        go_simp
                        exact hK _ _ ⟨hR.1.step (.inr rfl), hR.2⟩
                      refine Reg.Steps.cons (k' := 57) rfl ?_ ?_
                      · intro D vals a W hR hd hde ev K' hK
                        have HB := hR.2
                        have dg := Reg.dep hde 46 rfl
                        have xg : a.tmps[156]? = some (.bool false) := ev.got hR.1 46 156 _ rfl rfl dg
                        rw [if_pos (Reg.wanted_of rfl (Reg.yielded_of (t := 156) rfl xg))]
                        have d55 := Reg.dep hde 55 rfl
                        have x165 : a.tmps[165]? = some (.pointer (some ⟨PB, 0, none⟩)) := ev.got hR.1 55 165 _ rfl rfl d55
                        clear hde ev hd HB
                        go_simp
                        exact hK _ _ ⟨hR.1.step (.inr rfl), hR.2⟩
                      refine Reg.Steps.cons (k' := 58) rfl ?_ ?_
                      · intro D vals a W hR hd hde ev K' hK
                        have HB := hR.2
                        have dg := Reg.dep hde 46 rfl
                        have xg : a.tmps[156]? = some (.bool false) := ev.got hR.1 46 156 _ rfl rfl dg
                        rw [if_pos (Reg.wanted_of rfl (Reg.yielded_of (t := 156) rfl xg))]
                        have d56 := Reg.dep hde 56 rfl
                        have x166 : a.tmps[166]? = some (.pointer (some ⟨PB, 1, none⟩)) := ev.got hR.1 56 166 _ rfl rfl d56
                        have q := (HPSW.out W (HB2V.out.trans (HB.mono HB2V.out.size))).pb.cell 1
                        clear hde ev hd HB
                        go_simp
                        exact hK _ _ ⟨hR.1.step (.inr rfl), hR.2⟩
                      refine Reg.Steps.cons (k' := 59) rfl ?_ ?_
                      · intro D vals a W hR hd hde ev K' hK
                        have HB := hR.2
                        have dg := Reg.dep hde 46 rfl
                        have xg : a.tmps[156]? = some (.bool false) := ev.got hR.1 46 156 _ rfl rfl dg
                        rw [if_pos (Reg.wanted_of rfl (Reg.yielded_of (t := 156) rfl xg))]
                        have x5 : a.tmps[5]? = some (.pointer (some ⟨PB, 0, none⟩)) := (ev.out 5 (by kernel_rfl)).trans rfl
                        clear hde ev hd HB
                        go_simp
                        exact hK _ _ ⟨hR.1.step (.inr rfl), hR.2⟩
                      refine Reg.Steps.cons (k' := 60) rfl ?_ ?_
                      · intro D vals a W hR hd hde ev K' hK
                        have HB := hR.2
                        have dg := Reg.dep hde 46 rfl
                        have xg : a.tmps[156]? = some (.bool false) := ev.got hR.1 46 156 _ rfl rfl dg
                        rw [if_pos (Reg.wanted_of rfl (Reg.yielded_of (t := 156) rfl xg))]
                        have d58 := Reg.dep hde 58 rfl
                        have x168 : a.tmps[168]? = some (.pointer (some ⟨PB, 0, none⟩)) := ev.got hR.1 58 168 _ rfl rfl d58
                        clear hde ev hd HB
                        go_simp
                        exact hK _ _ ⟨hR.1.step (.inr rfl), hR.2⟩
                      refine Reg.Steps.cons (k' := 61) rfl ?_ ?_
                      · intro D vals a W hR hd hde ev K' hK
                        have HB := hR.2
                        have dg := Reg.dep hde 46 rfl
                        have xg : a.tmps[156]? = some (.bool false) := ev.got hR.1 46 156 _ rfl rfl dg
                        rw [if_pos (Reg.wanted_of rfl (Reg.yielded_of (t := 156) rfl xg))]
                        have d59 := Reg.dep hde 59 rfl
                        have x169 : a.tmps[169]? = some (.pointer (some ⟨PB, 0, none⟩)) := ev.got hR.1 59 169 _ rfl rfl d59
                        clear hde ev hd HB
                        go_simp
                        exact hK _ _ ⟨hR.1.step (.inr rfl), hR.2⟩
                      refine Reg.Steps.cons (k' := 62) rfl ?_ ?_
                      · intro D vals a W hR hd hde ev K' hK
                        have HB := hR.2
                        have dg := Reg.dep hde 46 rfl
                        have xg : a.tmps[156]? = some (.bool false) := ev.got hR.1 46 156 _ rfl rfl dg
                        rw [if_pos (Reg.wanted_of rfl (Reg.yielded_of (t := 156) rfl xg))]
                        have d60 := Reg.dep hde 60 rfl
                        have x170 : a.tmps[170]? = some (.pointer (some ⟨PB, 3, none⟩)) := ev.got hR.1 60 170 _ rfl rfl d60
                        have q := (HPSW.out W (HB2V.out.trans (HB.mono HB2V.out.size))).pb.cell 3
                        rw [HP.out] at q
                        clear hde ev hd HB
                        go_simp
                        exact hK _ _ ⟨hR.1.step (.inr rfl), hR.2⟩
                      refine Reg.Steps.cons (k' := 63) rfl ?_ ?_
                      · intro D vals a W hR hd hde ev K' hK
                        have HB := hR.2
                        have dg := Reg.dep hde 46 rfl
                        have xg : a.tmps[156]? = some (.bool false) := ev.got hR.1 46 156 _ rfl rfl dg
                        rw [if_pos (Reg.wanted_of rfl (Reg.yielded_of (t := 156) rfl xg))]
                        have x11 : a.tmps[11]? = some (.int .i64 (k : Int)) := (ev.out 11 (by kernel_rfl)).trans rfl
                        clear hde ev hd HB
                        go_simp
                        exact hK _ _ ⟨hR.1.step (.inr rfl), hR.2⟩
                      refine Reg.Steps.cons (k' := 64) rfl ?_ ?_
                      · intro D vals a W hR hd hde ev K' hK
                        have HB := hR.2
                        have dg := Reg.dep hde 46 rfl
                        have xg : a.tmps[156]? = some (.bool false) := ev.got hR.1 46 156 _ rfl rfl dg
                        rw [if_pos (Reg.wanted_of rfl (Reg.yielded_of (t := 156) rfl xg))]
                        have d61 := Reg.dep hde 61 rfl
                        have x171 : a.tmps[171]? = some (.slice (some ⟨gB, 0, none⟩) p d1) := ev.got hR.1 61 171 _ rfl rfl d61
                        have d62 := Reg.dep hde 62 rfl
                        have x172 : a.tmps[172]? = some (.int .i64 (k : Int)) := ev.got hR.1 62 172 _ rfl rfl d62
                        clear hde ev hd HB
                        go_simp
                        exact hK _ _ ⟨hR.1.step (.inr rfl), hR.2⟩
                      refine Reg.Steps.cons (k' := 65) rfl ?_ ?_
                      · intro D vals a W hR hd hde ev K' hK
                        have HB := hR.2
                        have dg := Reg.dep hde 46 rfl
                        have xg : a.tmps[156]? = some (.bool false) := ev.got hR.1 46 156 _ rfl rfl dg
                        rw [if_pos (Reg.wanted_of rfl (Reg.yielded_of (t := 156) rfl xg))]
                        have d63 := Reg.dep hde 63 rfl
                        have x173 : a.tmps[173]? = some (.pointer (some ⟨gB, k * 3, none⟩)) := ev.got hR.1 63 173 _ rfl rfl d63
                        have kb := HCB.out W (HB2V.out.trans (HB.mono HB2V.out.size))
                        have q0 := kb.1
                        have q1 := kb.2.1
                        have q2 := kb.2.2
                        clear kb
                        clear hde ev hd HB
                        go_simp
                        exact hK _ _ ⟨hR.1.step (.inr rfl), hR.2⟩
                      refine Reg.Steps.cons (k' := 66) rfl ?_ ?_
                      · intro D vals a W hR hd hde ev K' hK
                        have HB := hR.2
                        have dg := Reg.dep hde 46 rfl
                        have xg : a.tmps[156]? = some (.bool false) := ev.got hR.1 46 156 _ rfl rfl dg
                        rw [if_pos (Reg.wanted_of rfl (Reg.yielded_of (t := 156) rfl xg))]
                        have x10 : a.tmps[10]? = some (.pointer (some ⟨gT, 0, none⟩)) := (ev.out 10 (by kernel_rfl)).trans rfl
                        have kt := HKT.out.below HB HKT.out.lt
                        have q0 := kt.cell 0
                        have q1 := kt.cell 1
                        have q2 := kt.cell 2
                        have q3 := kt.cell 3
                        have q4 := kt.cell 4
                        have q5 := kt.cell 5
                        clear kt
                        clear hde ev hd HB
                        go_simp
                        exact hK _ _ ⟨hR.1.step (.inr rfl), hR.2⟩
                      refine Reg.Steps.cons (k' := 67) rfl ?_ ?_
                      · intro D vals a W hR hd hde ev K' hK
                        have HB := hR.2
                        have dg := Reg.dep hde 46 rfl
                        have xg : a.tmps[156]? = some (.bool false) := ev.got hR.1 46 156 _ rfl rfl dg
                        rw [if_pos (Reg.wanted_of rfl (Reg.yielded_of (t := 156) rfl xg))]
                        have d57 := Reg.dep hde 57 rfl
                        have x167 : a.tmps[167]? = some (.pointer (some ⟨Q, 0, none⟩)) := ev.got hR.1 57 167 _ rfl rfl d57
                        have d64 := Reg.dep hde 64 rfl
                        have x174 : a.tmps[174]? = some (.agg #[.int .u64 (ow : Int), .int .u64 (xx : Int), .slice RB rn rd]) := ev.got hR.1 64 174 _ rfl rfl d64
                        have d65 := Reg.dep hde 65 rfl
                        have x175 : a.tmps[175]? = some (.agg #[.int .u64 0, .int .u64 (ta : Int), .int .u64 (tb : Int), .int .i64 0, .int .i64 0, .slice none 0 0]) := ev.got hR.1 65 175 _ rfl rfl d65
                        have CC := Lib.hid (CF2.out W (HB2V.out.trans (HB.mono HB2V.out.size)))
                        have HR1 := Lib.hid hR
                        clear hde ev hd HB hR
                        go_simp
                        refine CC.out.mono ?_
                        rintro e W1 ⟨rfl, hb⟩
                        exact hK _ _ ⟨HR1.out.1.step (.inr rfl), HR1.out.2.trans (hb.mono HR1.out.2.size)⟩
                      refine Reg.Steps.cons (k' := 68) rfl ?_ ?_
                      · intro D vals a W hR hd hde ev K' hK
                        have HB := hR.2
                        have dg := Reg.dep hde 46 rfl
                        have xg : a.tmps[156]? = some (.bool false) := ev.got hR.1 46 156 _ rfl rfl dg
                        rw [if_pos (Reg.wanted_of rfl (Reg.yielded_of (t := 156) rfl xg))]
                        have d53 := Reg.dep hde 53 rfl
                        have x163 : a.tmps[163]? = some (.int .i64 fr) := ev.got hR.1 53 163 _ rfl rfl d53
                        have d66 := Reg.dep hde 66 rfl
                        have x176 : a.tmps[176]? = some (.int .i64 fr) := ev.got hR.1 66 176 _ rfl rfl d66
                        clear hde ev hd HB
                        go_simp
                        exact hK _ _ ⟨hR.1.step (.inr rfl), hR.2⟩
                      refine Reg.Steps.cons (k' := 69) rfl ?_ ?_
                      · intro D vals a W hR hd hde ev K' hK
                        have HB := hR.2
                        have d46 := Reg.dep hde 46 rfl
                        have x156 : a.tmps[156]? = some (.bool false) := ev.got hR.1 46 156 _ rfl rfl d46
                        have d67 := Reg.dep hde 67 rfl
                        have x177 : a.tmps[177]? = some (.bool false) := ev.got hR.1 67 177 _ rfl rfl d67
                        clear hde ev hd HB
                        go_simp
                        exact hK _ _ ⟨hR.1.step (.inr rfl), hR.2⟩
                      exact Reg.Steps.nil
                    · intro D vals W2 hD hR
                      have hB2 := hR.2
                      have ev68 := hR.1 68 _ rfl (hD 68 (by decide))
                      clear hR hD
                      simp only [Reg.fin, Act.put, List.setIfInBounds_toArray, List.set_cons_zero, List.set_cons_succ, ev68]
                      clear ev68
                      generalize vals 0 = z0; generalize vals 1 = z1; generalize vals 2 = z2; generalize vals 3 = z3; generalize vals 4 = z4; generalize vals 5 = z5; generalize vals 6 = z6; generalize vals 7 = z7; generalize vals 8 = z8; generalize vals 9 = z9; generalize vals 10 = z10; generalize vals 11 = z11; generalize vals 12 = z12; generalize vals 13 = z13; generalize vals 14 = z14; generalize vals 15 = z15; generalize vals 16 = z16; generalize vals 17 = z17; generalize vals 18 = z18; generalize vals 19 = z19; generalize vals 20 = z20; generalize vals 21 = z21; generalize vals 22 = z22; generalize vals 23 = z23; generalize vals 24 = z24; generalize vals 25 = z25; generalize vals 26 = z26; generalize vals 27 = z27; generalize vals 28 = z28; generalize vals 29 = z29; generalize vals 30 = z30; generalize vals 31 = z31; generalize vals 32 = z32; generalize vals 33 = z33; generalize vals 34 = z34; generalize vals 35 = z35; generalize vals 36 = z36; generalize vals 37 = z37; generalize vals 38 = z38; generalize vals 39 = z39; generalize vals 40 = z40; generalize vals 41 = z41; generalize vals 42 = z42; generalize vals 43 = z43; generalize vals 44 = z44; generalize vals 45 = z45; generalize vals 46 = z46; generalize vals 47 = z47; generalize vals 48 = z48; generalize vals 49 = z49; generalize vals 50 = z50; generalize vals 51 = z51; generalize vals 52 = z52; generalize vals 53 = z53; generalize vals 54 = z54; generalize vals 55 = z55; generalize vals 56 = z56; generalize vals 57 = z57; generalize vals 58 = z58; generalize vals 59 = z59; generalize vals 60 = z60; generalize vals 61 = z61; generalize vals 62 = z62; generalize vals 63 = z63; generalize vals 64 = z64; generalize vals 65 = z65; generalize vals 66 = z66; generalize vals 67 = z67
                      clear vals
                      have HBF := Lib.hid (HB6.out.trans (hB2.mono HB6.out.size))
                      clear hB2
                      go_wp2_with fail
                      go_roundw
                      case rel => exact ⟨k + 1, by omega, by go_num, HBF.out⟩
                      case measure => simp [intOf]; omega
                  · obtain rfl : k = p := by omega
                    have HBF := Lib.hid (HB2W.out.trans (HBI.out.mono HB2W.out.size))
                    go_wp2_with fail
                    go_roundw
                    case rel => exact ⟨q + 1, by omega, by go_num, HBF.out⟩
                    case measure => simp [intOf]; omega
        · obtain rfl : q = sn := by omega
          have HFIN := Lib.hid (bel_trans HB2.out HBO.out)
          go_wp2_with fail
          go_ret
          exact ⟨rfl, HFIN.out⟩
end Go.Proofs.Ytaadkgcpkghgmaa.Clg
