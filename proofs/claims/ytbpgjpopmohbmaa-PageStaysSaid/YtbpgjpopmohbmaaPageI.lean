/- Page.Insert where no version is moved. -/
import Derived.Test.YtbpgjpopmohbmaaPageG
namespace Go.Proofs.Ytbpgjpopmohbmaa.Mem
open Go.RowKit Go.Proofs.Ytbpgjpopmohbmaa.Nums
set_option linter.unusedVariables false
set_option linter.unusedSimpArgs false
set_option maxRecDepth 100000
set_option maxHeartbeats 1000000
theorem IsNext.eq {X : List UInt8} {a b : Nat} (h : IsNext X a) (k : IsNext X b) : a = b := by
  rcases Nat.lt_trichotomy a b with hl | he | hl
  · exact absurd (h.free (Nat.lt_of_lt_of_le hl k.le)) (k.full a hl)
  · exact he
  · exact absurd (k.free (Nat.lt_of_lt_of_le hl h.le)) (h.full b hl)
theorem next_q (P q : Nat) (X : List UInt8) (w : World) (hp : Pg w P X) (hF : Fine X) (hq : IsNext X q) :
    Calls Try.prog 70 #[.pointer (some ⟨P, 0, none⟩)] w fun e w' => e = .returned (.int .i64 q) ∧ ∃ m, w' = w.drewN m :=
  (next_pg P X w hp hF).mono fun e w' ⟨q', he, hq', hm⟩ => by
    obtain rfl := hq.eq hq'
    exact ⟨he, hm⟩
def roomN (X : List UInt8) (q : Nat) : Int := max (478 - 4 * (max (slN X) (q + 1) : Nat) - (suN X (slN X) : Nat)) (-1)
theorem room_q (P q : Nat) (X : List UInt8) (w : World) (hp : Pg w P X) (hF : Fine X) (hq : IsNext X q) :
    Calls Try.prog 21 #[.pointer (some ⟨P, 0, none⟩)] w fun e w' => e = .returned (.int .i64 (roomN X q)) ∧ ∃ m, w' = w.drewN m :=
  (room_pg P X w hp hF).mono fun e w' ⟨q', hq', he, hm⟩ => by
    obtain rfl := hq.eq hq'
    exact ⟨he, hm⟩
theorem quiet_m {P : Program} {f : FuncId} {args : Array Value} {w : World} {n : Nat} {v : Value} (h : Calls P f args (w.drewN n) fun e w' => e = .returned v ∧ ∃ m, w' = (w.drewN n).drewN m) : Calls P f args (w.drewN n) fun e w'' => e = .returned v ∧ ∃ m, w'' = w.drewN m :=
  h.mono fun _ _ ⟨h1, m, h2⟩ => ⟨h1, n + m, h2.trans (World.drewN_drewN _ _ _)⟩
theorem Pg.drew {w : World} {P : Nat} {X : List UInt8} (h : Pg w P X) : Pg w.drew P X := h
theorem sl_drewN {w : World} {A : Option Addr} {n c : Nat} {xs : List Value} (h : Sl w w.heap.size 1 A n c xs) (k : Nat) : Sl (w.drewN k) (w.drewN k).heap.size 1 A n c xs := h.below (w' := w.drewN k) ⟨rfl, rfl, rfl, Nat.le_refl _, fun _ _ => rfl⟩
theorem sl_drewD {w : World} {A : Option Addr} {n c : Nat} {xs : List Value} (h : Sl w w.heap.size 1 A n c xs) (k : Nat) : Sl (w.drew.drewN k) (w.drew.drewN k).heap.size 1 A n c xs := h.below (w' := w.drew.drewN k) ⟨rfl, rfl, rfl, Nat.le_refl _, fun _ _ => rfl⟩
theorem insert_ok (P q r a b P1 S1 n c at_ : Nat) (p s : Int) (A : Option Addr) (d X : List UInt8) (w : World) (hp : Pg w P X) (hF : Fine X) (hq : IsNext X q) (hd : d.length = n) (hs : Sl w w.heap.size 1 A n c (u8s d)) (hok : tuOk r a b p s n = true) (hr : r < 18446744073709551616) (ha : a < 18446744073709551616) (hb : b < 18446744073709551616) (hp1 : p + 1 = P1) (hs1 : s + 1 = S1) (hP : P1 ≤ 65536) (hS : S1 ≤ 65535) (hn : n ≤ 200) (hroom : (n : Int) ≤ roomN X q) (hbg : bgN X = at_ + (30 + n)) (hfit : 4 + 4 * max (slN X) (q + 1) ≤ at_) (h512 : at_ + (30 + n) ≤ 512) :
    Calls Try.prog 34 #[.pointer (some ⟨P, 0, none⟩), .agg #[.int .u64 r, .int .u64 a, .int .u64 b, .int .i64 p, .int .i64 s, .slice A n c]] w fun e w' => e = .returned (.tuple #[.int .i64 q, .int .i64 0]) ∧ Pg w' P (placeL (lay X 0 (nb (max (slN X) (q + 1)) 2)) q at_ (verL r a b P1 S1 d)) ∧ Only P w w' := by
  have HP := Lib.hid hp
  have HF := Lib.hid hF
  have HQ := Lib.hid hq
  have HS := Lib.hid hs
  have HD := Lib.hid hd
  obtain ⟨bx, hbxx⟩ : ∃ bx, w.heap.size = bx := ⟨_, rfl⟩
  obtain ⟨wx, hwx⟩ : ∃ wx, w.alloc (.cells #[.int .u64 r, .int .u64 a, .int .u64 b, .int .i64 p, .int .i64 s, .slice A n c] 33) = wx := ⟨_, rfl⟩
  have HWX := Lib.hid hwx
  have hb4 := at_new w #[.int .u64 r, .int .u64 a, .int .u64 b, .int .i64 p, .int .i64 s, .slice A n c] 33
  rw [hwx] at hb4
  have g0 := hb4.2 0 (.int .u64 r) rfl
  have g1 := hb4.2 1 (.int .u64 a) rfl
  have g2 := hb4.2 2 (.int .u64 b) rfl
  have g3 := hb4.2 3 (.int .i64 p) rfl
  have g4 := hb4.2 4 (.int .i64 s) rfl
  have g5 := hb4.2 5 (.slice A n c) rfl
  rw [add_flat, hbxx] at g0 g1 g2 g3 g4 g5
  have hsz : wx.heap.size = bx + 1 := by rw [← hwx, size_alloc, hbxx]
  have HBX : Hid (Below w.heap.size w wx) := Lib.hid (by rw [← hwx]; exact bel_alloc _ _)
  have HG := Lib.hid (And.intro g0 (And.intro g1 (And.intro g2 (And.intro g3 (And.intro g4 g5)))))
  have CR := Lib.hid (right_any r a b p s A n c wx)
  rw [hok] at CR
  have hlen := hs.cap
  clear hb4 g0 g1 g2 g3 g4 g5 hp hF hq hs hd hok hwx
  go_enter Try.func34, Try.ntmps34
  go_wp2_with fail
  rw [HWX.out]
  refine CR.out.mono ?_
  rintro e w2 ⟨rfl, hb2⟩
  have HB2 := Lib.hid (HBX.out.trans (hb2.mono (by omega)))
  have HP2 : Hid (Pg w2 P X) := Lib.hid ⟨Blk.below HP.out.1 HB2.out (Blk.lt HP.out.1), HP.out.2⟩
  have HS2 := Lib.hid (HS.out.below HB2.out)
  have hsz2 : bx + 1 ≤ w2.heap.size := by rw [← hsz]; exact hb2.size
  obtain ⟨x0, x1, x2, x3, x4, x5⟩ := HG.out
  have c0 := (hb2.cell (p := ⟨bx, 0, none⟩) (by show bx < wx.heap.size; omega)).trans x0
  have c1 := (hb2.cell (p := ⟨bx, 1, none⟩) (by show bx < wx.heap.size; omega)).trans x1
  have c2 := (hb2.cell (p := ⟨bx, 2, none⟩) (by show bx < wx.heap.size; omega)).trans x2
  have c3 := (hb2.cell (p := ⟨bx, 3, none⟩) (by show bx < wx.heap.size; omega)).trans x3
  have c4 := (hb2.cell (p := ⟨bx, 4, none⟩) (by show bx < wx.heap.size; omega)).trans x4
  have c5 := (hb2.cell (p := ⟨bx, 5, none⟩) (by show bx < wx.heap.size; omega)).trans x5
  have HCC := Lib.hid (And.intro c0 (And.intro c1 (And.intro c2 (And.intro c3 (And.intro c4 c5)))))
  have hroom' : ¬ roomN X q < (n : Int) := by omega
  clear hb2 x0 x1 x2 x3 x4 x5 hroom c0 c1 c2 c3 c4 hsz
  go_wp2_with fail
  go_quiet ((go_at_call 21; exact quiet_m (room_q P q X _ (HP2.out.drewN _) HF.out HQ.out)))
  go_wp2_with fail
  obtain ⟨wd, hwd⟩ : ∃ wd, w2.drewN nq = wd := ⟨_, rfl⟩
  have HPD : Hid (Pg wd P X) := Lib.hid (by rw [← hwd]; exact HP2.out.drewN _)
  have HCD : Hid (wd.cell? ⟨bx, 0, none⟩ = some (.int .u64 r) ∧ wd.cell? ⟨bx, 1, none⟩ = some (.int .u64 a) ∧ wd.cell? ⟨bx, 2, none⟩ = some (.int .u64 b) ∧ wd.cell? ⟨bx, 3, none⟩ = some (.int .i64 p) ∧ wd.cell? ⟨bx, 4, none⟩ = some (.int .i64 s) ∧ wd.cell? ⟨bx, 5, none⟩ = some (.slice A n c)) := Lib.hid (by rw [← hwd]; exact HCC.out)
  have hszd : bx + 1 ≤ wd.heap.size := by rw [← hwd]; exact hsz2
  have HOD : Hid (Only P w wd) := Lib.hid (by rw [← hwd]; exact (Only.of_below HB2.out).trans ⟨rfl, rfl, rfl, Nat.le_refl _, fun _ _ _ => rfl⟩)
  have HSD : Hid (Sl wd wd.heap.size 1 A n c (u8s d)) := Lib.hid (by rw [← hwd]; exact (HS2.out.below (w' := w2.drewN nq) ⟨rfl, rfl, rfl, Nat.le_refl _, fun _ _ => rfl⟩).more HB2.out.size)
  rw [hwd]
  obtain ⟨d0, d1, d2, d3, d4, d5⟩ := HCD.out
  clear hwd c5
  go_region_held3 (fun w' => w'.cell? ⟨bx, 0, none⟩ = some (.int .u64 r) ∧ w'.cell? ⟨bx, 1, none⟩ = some (.int .u64 a) ∧ w'.cell? ⟨bx, 2, none⟩ = some (.int .u64 b) ∧ w'.cell? ⟨bx, 3, none⟩ = some (.int .i64 p) ∧ w'.cell? ⟨bx, 4, none⟩ = some (.int .i64 s) ∧ w'.cell? ⟨bx, 5, none⟩ = some (.slice A n c))
    (first | go_keep | exact HCD.out | exact ⟨(hbv.cell (p := ⟨bx, 0, none⟩) (by show bx < wd.heap.size; omega)).trans HCD.out.1, (hbv.cell (p := ⟨bx, 1, none⟩) (by show bx < wd.heap.size; omega)).trans HCD.out.2.1, (hbv.cell (p := ⟨bx, 2, none⟩) (by show bx < wd.heap.size; omega)).trans HCD.out.2.2.1, (hbv.cell (p := ⟨bx, 3, none⟩) (by show bx < wd.heap.size; omega)).trans HCD.out.2.2.2.1, (hbv.cell (p := ⟨bx, 4, none⟩) (by show bx < wd.heap.size; omega)).trans HCD.out.2.2.2.2.1, (hbv.cell (p := ⟨bx, 5, none⟩) (by show bx < wd.heap.size; omega)).trans HCD.out.2.2.2.2.2⟩)
    (first
      | (go_at_call 70; refine (next_q P q X _ (Pg.drew HPD.out) HF.out HQ.out).mono ?_; rintro e w3 ⟨rfl, m3, rfl⟩)
      | (go_at_call 78; refine (version_any r a b P1 S1 n c p s A d _ HD.out (by omega) (by first | exact sl_drewN HSD.out _ | exact sl_drewD HSD.out _) hr ha hb hp1 hs1 hP hS).mono ?_; rintro e w4 ⟨rfl, hvv, hbv⟩))
  have HV : Hid (BB w4 (wd.heap.size + 1) 5 (verL r a b P1 S1 d)) := Lib.hid hvv
  have HBV : Hid (Below wd.heap.size wd w4) := Lib.hid ⟨hbv.os, hbv.tape, hbv.output, hbv.size, hbv.block⟩
  have HP4 : Hid (Pg w4 P X) := Lib.hid ⟨Blk.below HPD.out.1 HBV.out (Blk.lt HPD.out.1), HPD.out.2⟩
  have HO4 := Lib.hid (HOD.out.trans (Only.of_below HBV.out))
  have hPV : P ≠ wd.heap.size + 1 := by have := Blk.lt HPD.out.1; omega
  obtain ⟨V, hV⟩ : ∃ V, wd.heap.size + 1 = V := ⟨_, rfl⟩
  rw [hV] at HV hPV ⊢
  clear hvv hbv hV d0 d1 d2 d3 d4 d5
  have CB := Lib.hid (begin_pg P X w4 HP4.out)
  have e : get2 X 2 = at_ + (30 + n) := hbg
  rw [e] at CB
  push_cast at CB
  clear e
  have hql := HQ.out.le
  have htop := HF.out.top
  have CE := Lib.hid (slotsEnd_pg P q X w4 HP4.out HF.out (by omega))
  obtain ⟨M, hM⟩ : ∃ M, max (slN X) (q + 1) = M := ⟨_, rfl⟩
  have HM := Lib.hid hM
  rw [hM] at CE hfit
  push_cast at CE
  have hMb : M ≤ 128 := by omega
  have m1 : (at_ : Int) ≤ 512 := by omega
  have m2 : ¬ (at_ : Int) < 4 + 4 * (M : Int) := by omega
  have m3 : (n : Int) ≤ 200 := by omega
  clear hM
  go_wp2_with fail
  refine CB.out.mono ?_
  rintro e w5 ⟨rfl, rfl⟩
  go_wp2_with fail
  refine CE.out.mono ?_
  rintro e w5 ⟨rfl, rfl⟩
  have CS := Lib.hid (slots_pg P X w4 HP4.out)
  have e : get2 X 0 = slN X := rfl
  rw [e] at CS
  clear e
  obtain ⟨G, hG⟩ : ∃ G, slN X = G := ⟨_, rfl⟩
  have HGG := Lib.hid hG
  rw [hG] at CS hql htop
  have CW := Lib.hid (setSlots_pg P M X w4 HP4.out (by omega))
  have HMG : Hid (max G (q + 1) = M) := Lib.hid (by rw [← HGG.out]; exact HM.out)
  clear hG
  have fin : ∀ w6 w7, Pg w6 P (lay X 0 (nb M 2)) → Only P w4 w6 → Pg w7 P (placeL (lay X 0 (nb M 2)) q at_ (verL r a b P1 S1 d)) → Only P w6 w7 → Pg w7 P (placeL (lay X 0 (nb (max (slN X) (q + 1)) 2)) q at_ (verL r a b P1 S1 d)) ∧ Only P w w7 := by
    intro w6 w7 h6 ho6 h7 ho7
    rw [HM.out]
    exact ⟨h7, (HO4.out.trans ho6).trans ho7⟩
  have HFIN := Lib.hid fin
  have plc : ∀ w6, Pg w6 P (lay X 0 (nb M 2)) → Only P w4 w6 → Calls Try.prog 82 #[.pointer (some ⟨P, 0, none⟩), .int .i64 q, .slice (some ⟨V, 0, none⟩) (30 + n : Nat) (30 + n : Nat)] w6 fun e w' => e = .returned (.tuple #[]) ∧ Pg w' P (placeL (lay X 0 (nb M 2)) q at_ (verL r a b P1 S1 d)) ∧ Only P w6 w' := by
    intro w6 h6 ho6
    have hb6 : BB w6 V 5 (verL r a b P1 S1 d) := ho6.blk HV.out (Ne.symm hPV)
    refine place_pg P q at_ (30 + n) (30 + n) _ _ ⟨V, 0, none⟩ w6 h6 ?_ (by omega) (by rw [verL_len, HD.out]) (by omega) (by have := HMG.out; omega) ?_
    · show get2 (lay X 0 (nb M 2)) 2 = _
      rw [get2_other (by rw [nb_len, HP.out.2]; omega) (by rw [nb_len]; omega)]
      exact hbg
    · intro j v hv
      rw [add_flat, Blk.cell hb6, List.getElem?_toArray]
      exact hv
  have HPLC := Lib.hid plc
  clear fin plc
  have hq8 : (q : Int) ≤ 127 := by omega
  rcases Nat.lt_or_ge q G with h | h
  · obtain rfl : M = G := by have := HMG.out; omega
    have h1 : (q : Int) + 1 ≤ M := by omega
    have h2 : max (M : Int) ((q : Int) + 1) = M := by omega
    clear h
    go_wp2_with fail
    refine CS.out.mono ?_
    rintro e w5 ⟨rfl, rfl⟩
    go_wp2_with fail
    refine CW.out.mono ?_
    rintro e w6 ⟨rfl, h6, ho6⟩
    go_wp2_with fail
    refine (HPLC.out w6 h6 ho6).mono ?_
    rintro e w7 ⟨rfl, h7, ho7⟩
    go_wp2_with fail
    go_ret2
    exact ⟨rfl, HFIN.out w6 w7 h6 ho6 h7 ho7⟩
  · obtain rfl : M = q + 1 := by have := HMG.out; omega
    have h1 : (G : Int) < (q : Int) + 1 := by omega
    have h2 : max (G : Int) ((q : Int) + 1) = (q : Int) + 1 := by omega
    clear h
    push_cast at CW
    go_wp2_with fail
    refine CS.out.mono ?_
    rintro e w5 ⟨rfl, rfl⟩
    go_wp2_with fail
    refine CW.out.mono ?_
    rintro e w6 ⟨rfl, h6, ho6⟩
    go_wp2_with fail
    refine (HPLC.out w6 h6 ho6).mono ?_
    rintro e w7 ⟨rfl, h7, ho7⟩
    go_wp2_with fail
    go_ret2
    exact ⟨rfl, HFIN.out w6 w7 h6 ho6 h7 ho7⟩
end Go.Proofs.Ytbpgjpopmohbmaa.Mem
