/- Texts PackI to RfG, one behind the other. -/
import Derived.Test.YthghnhcopmmmpaaMPHC1
import Derived.Lib.SmallJoins
import Derived.BigRegion
import Derived.BigQuiet
/- Page.Insert behind pack. -/
namespace Go.Proofs.Ythghnhcopmmmpaa.Mem
open Go.RowKit Go.Proofs.Ythghnhcopmmmpaa.Nums
set_option linter.unusedVariables false
set_option linter.unusedSimpArgs false
set_option maxRecDepth 100000
set_option maxHeartbeats 1000000
theorem pk_head {X : List UInt8} (h : PkOk X) : ∀ k, k ≤ slN X → sub (pk X k) 0 2 = sub X 0 2
  | 0, _ => by
    have := h.bg
    have := h.low
    unfold pk
    rw [sub_other (by rw [nb_len, pk_len0 h]; omega) (by omega), sub_other (by rw [List.length_replicate, h.len]; omega) (by omega)]
  | k + 1, hk => by
    have ih := pk_head h k (by omega)
    have hm := suN_mono X hk
    have hs := h.sum
    have hf := h.fine.fit k (by omega)
    have ht := h.fine.top
    unfold pk
    split
    · exact ih
    · have e : (sub X (frS X k) (szS X k)).length = szS X k := sub_len (by rw [h.len]; exact hf)
      have e2 : suN X (k + 1) = suN X k + szS X k := rfl
      rw [place_sub (pk_len h k (by omega)) (by rw [e]; omega) (by omega) (by omega) (by omega) (by omega), ih]
theorem pk_slN {X : List UInt8} (h : PkOk X) {k : Nat} (hk : k ≤ slN X) : slN (pk X k) = slN X := by
  show leN (sub (pk X k) 0 2) = leN (sub X 0 2)
  rw [pk_head h k hk]
theorem insert_pack (P q r a b P1 S1 n c at_ bg : Nat) (p s : Int) (A : Option Addr) (d X : List UInt8) (w : World) (hp : Pg w P X) (hPK : PkOk X) (hq : IsNext X q) (hd : d.length = n) (hs : Sl w w.heap.size 1 A n c (u8s d)) (hok : tuOk r a b p s n = true) (hr : r < 18446744073709551616) (ha : a < 18446744073709551616) (hb : b < 18446744073709551616) (hp1 : p + 1 = P1) (hs1 : s + 1 = S1) (hP : P1 ≤ 65536) (hS : S1 ≤ 65535) (hn : n ≤ 200) (hroom : (n : Int) ≤ roomN X q) (hbg : bgN X = bg) (hno : bg < 34 + n + 4 * max (slN X) (q + 1)) (h512 : at_ + (30 + n) + suN X (slN X) = 512) :
    Calls Try.prog 34 #[.pointer (some ⟨P, 0, none⟩), .agg #[.int .u64 r, .int .u64 a, .int .u64 b, .int .i64 p, .int .i64 s, .slice A n c]] w fun e w' => e = .returned (.tuple #[.int .i64 q, .int .i64 0]) ∧ Pg w' P (placeL (lay (pk X (slN X)) 0 (nb (max (slN X) (q + 1)) 2)) q at_ (verL r a b P1 S1 d)) ∧ Only P w w' := by
  have HP := Lib.hid hp
  have hF := hPK.fine
  have HF := Lib.hid hF
  have hrm : 4 * max (slN X) (q + 1) ≤ 478 := by unfold roomN at hroom; omega
  have HPK := Lib.hid hPK
  have HQ := Lib.hid hq
  have HS := Lib.hid hs
  have HD := Lib.hid hd
  obtain ⟨bx, hbxx⟩ : ∃ bx, w.heap.size = bx := ⟨_, rfl⟩
  obtain ⟨wx, hwx⟩ : ∃ wx, w.alloc (.cells #[.int .u64 r, .int .u64 a, .int .u64 b, .int .i64 p, .int .i64 s, .slice A n c] 33) = wx := ⟨_, rfl⟩
  have HWX := Lib.hid hwx
  have hb4 := at_new w #[.int .u64 r, .int .u64 a, .int .u64 b, .int .i64 p, .int .i64 s, .slice A n c] 33
  rw [hwx] at hb4
  have g0 := hb4.2 0 (.int .u64 r) rfl
  have g1 := hb4.2 1 (.int .u64 a) rfl
  have g2 := hb4.2 2 (.int .u64 b) rfl
  have g3 := hb4.2 3 (.int .i64 p) rfl
  have g4 := hb4.2 4 (.int .i64 s) rfl
  have g5 := hb4.2 5 (.slice A n c) rfl
  rw [add_flat, hbxx] at g0 g1 g2 g3 g4 g5
  have hsz : wx.heap.size = bx + 1 := by rw [← hwx, size_alloc, hbxx]
  have HBX : Hid (Below w.heap.size w wx) := Lib.hid (by rw [← hwx]; exact bel_alloc _ _)
  have HG := Lib.hid (And.intro g0 (And.intro g1 (And.intro g2 (And.intro g3 (And.intro g4 g5)))))
  have CR := Lib.hid (right_any r a b p s A n c wx)
  rw [hok] at CR
  have hlen := hs.cap
  clear hb4 g0 g1 g2 g3 g4 g5 hp hF hPK hq hs hd hok hwx
  go_enter Try.func34, Try.ntmps34
  go_wp2_with fail
  rw [HWX.out]
  refine CR.out.mono ?_
  rintro e w2 ⟨rfl, hb2⟩
  have HB2 := Lib.hid (HBX.out.trans (hb2.mono (by omega)))
  have HP2 : Hid (Pg w2 P X) := Lib.hid ⟨Blk.below HP.out.1 HB2.out (Blk.lt HP.out.1), HP.out.2⟩
  have HS2 := Lib.hid (HS.out.below HB2.out)
  have hsz2 : bx + 1 ≤ w2.heap.size := by rw [← hsz]; exact hb2.size
  obtain ⟨x0, x1, x2, x3, x4, x5⟩ := HG.out
  have c0 := (hb2.cell (p := ⟨bx, 0, none⟩) (by show bx < wx.heap.size; omega)).trans x0
  have c1 := (hb2.cell (p := ⟨bx, 1, none⟩) (by show bx < wx.heap.size; omega)).trans x1
  have c2 := (hb2.cell (p := ⟨bx, 2, none⟩) (by show bx < wx.heap.size; omega)).trans x2
  have c3 := (hb2.cell (p := ⟨bx, 3, none⟩) (by show bx < wx.heap.size; omega)).trans x3
  have c4 := (hb2.cell (p := ⟨bx, 4, none⟩) (by show bx < wx.heap.size; omega)).trans x4
  have c5 := (hb2.cell (p := ⟨bx, 5, none⟩) (by show bx < wx.heap.size; omega)).trans x5
  have HCC := Lib.hid (And.intro c0 (And.intro c1 (And.intro c2 (And.intro c3 (And.intro c4 c5)))))
  have hroom' : ¬ roomN X q < (n : Int) := by omega
  clear hb2 x0 x1 x2 x3 x4 x5 hroom c0 c1 c2 c3 c4 hsz
  go_wp2_with fail
  go_quiet ((go_at_call 21; exact quiet_m (room_q P q X _ (HP2.out.drewN _) HF.out HQ.out)))
  go_wp2_with fail
  obtain ⟨wd, hwd⟩ : ∃ wd, w2.drewN nq = wd := ⟨_, rfl⟩
  have HPD : Hid (Pg wd P X) := Lib.hid (by rw [← hwd]; exact HP2.out.drewN _)
  have HCD : Hid (wd.cell? ⟨bx, 0, none⟩ = some (.int .u64 r) ∧ wd.cell? ⟨bx, 1, none⟩ = some (.int .u64 a) ∧ wd.cell? ⟨bx, 2, none⟩ = some (.int .u64 b) ∧ wd.cell? ⟨bx, 3, none⟩ = some (.int .i64 p) ∧ wd.cell? ⟨bx, 4, none⟩ = some (.int .i64 s) ∧ wd.cell? ⟨bx, 5, none⟩ = some (.slice A n c)) := Lib.hid (by rw [← hwd]; exact HCC.out)
  have hszd : bx + 1 ≤ wd.heap.size := by rw [← hwd]; exact hsz2
  have HOD : Hid (Only P w wd) := Lib.hid (by rw [← hwd]; exact (Only.of_below HB2.out).trans ⟨rfl, rfl, rfl, Nat.le_refl _, fun _ _ _ => rfl⟩)
  have HSD : Hid (Sl wd wd.heap.size 1 A n c (u8s d)) := Lib.hid (by rw [← hwd]; exact (HS2.out.below (w' := w2.drewN nq) ⟨rfl, rfl, rfl, Nat.le_refl _, fun _ _ => rfl⟩).more HB2.out.size)
  rw [hwd]
  obtain ⟨d0, d1, d2, d3, d4, d5⟩ := HCD.out
  clear hwd c5
  go_region_held3 (fun w' => w'.cell? ⟨bx, 0, none⟩ = some (.int .u64 r) ∧ w'.cell? ⟨bx, 1, none⟩ = some (.int .u64 a) ∧ w'.cell? ⟨bx, 2, none⟩ = some (.int .u64 b) ∧ w'.cell? ⟨bx, 3, none⟩ = some (.int .i64 p) ∧ w'.cell? ⟨bx, 4, none⟩ = some (.int .i64 s) ∧ w'.cell? ⟨bx, 5, none⟩ = some (.slice A n c))
    (first | go_keep | exact HCD.out | exact ⟨(hbv.cell (p := ⟨bx, 0, none⟩) (by show bx < wd.heap.size; omega)).trans HCD.out.1, (hbv.cell (p := ⟨bx, 1, none⟩) (by show bx < wd.heap.size; omega)).trans HCD.out.2.1, (hbv.cell (p := ⟨bx, 2, none⟩) (by show bx < wd.heap.size; omega)).trans HCD.out.2.2.1, (hbv.cell (p := ⟨bx, 3, none⟩) (by show bx < wd.heap.size; omega)).trans HCD.out.2.2.2.1, (hbv.cell (p := ⟨bx, 4, none⟩) (by show bx < wd.heap.size; omega)).trans HCD.out.2.2.2.2.1, (hbv.cell (p := ⟨bx, 5, none⟩) (by show bx < wd.heap.size; omega)).trans HCD.out.2.2.2.2.2⟩)
    (first
      | (go_at_call 70; refine (next_q P q X _ (Pg.drew HPD.out) HF.out HQ.out).mono ?_; rintro e w3 ⟨rfl, m3, rfl⟩)
      | (go_at_call 78; refine (version_any r a b P1 S1 n c p s A d _ HD.out (by omega) (by first | exact sl_drewN HSD.out _ | exact sl_drewD HSD.out _) hr ha hb hp1 hs1 hP hS).mono ?_; rintro e w4 ⟨rfl, hvv, hbv⟩))
  have HV : Hid (BB w4 (wd.heap.size + 1) 5 (verL r a b P1 S1 d)) := Lib.hid hvv
  have HBV : Hid (Below wd.heap.size wd w4) := Lib.hid ⟨hbv.os, hbv.tape, hbv.output, hbv.size, hbv.block⟩
  have HP4 : Hid (Pg w4 P X) := Lib.hid ⟨Blk.below HPD.out.1 HBV.out (Blk.lt HPD.out.1), HPD.out.2⟩
  have HO4 := Lib.hid (HOD.out.trans (Only.of_below HBV.out))
  have hPV : P ≠ wd.heap.size + 1 := by have := Blk.lt HPD.out.1; omega
  obtain ⟨V, hV⟩ : ∃ V, wd.heap.size + 1 = V := ⟨_, rfl⟩
  rw [hV] at HV hPV ⊢
  clear hvv hbv hV d0 d1 d2 d3 d4 d5
  have CB := Lib.hid (begin_pg P X w4 HP4.out)
  have e : get2 X 2 = bg := hbg
  rw [e] at CB
  clear e
  have hql := HQ.out.le
  have htop := HF.out.top
  have CE := Lib.hid (slotsEnd_pg P q X w4 HP4.out HF.out (by omega))
  obtain ⟨M, hM⟩ : ∃ M, max (slN X) (q + 1) = M := ⟨_, rfl⟩
  have HM := Lib.hid hM
  rw [hM] at CE hno hrm
  push_cast at CE
  have hMb : M ≤ 128 := by omega
  have hbb : bg < 65536 := by have := get2_lt X 2; omega
  have m1 : (bg : Int) ≤ 65536 := by omega
  have m2 : (bg : Int) - (30 + (n : Int)) < 4 + 4 * (M : Int) := by omega
  have m3 : (n : Int) ≤ 200 := by omega
  clear hM
  go_wp2_with fail
  refine CB.out.mono ?_
  rintro e w5 ⟨rfl, rfl⟩
  go_wp2_with fail
  refine CE.out.mono ?_
  rintro e w5 ⟨rfl, rfl⟩
  go_wp2_with fail
  refine (pack_pg P X w4 HP4.out HPK.out).mono ?_
  rintro e w4 ⟨rfl, hpk, hopk⟩
  have HV := Lib.hid (hopk.blk HV.out (Ne.symm hPV))
  have HP4 := Lib.hid hpk
  have HO4 := Lib.hid (HO4.out.trans hopk)
  have HSY : Hid (slN (pk X (slN X)) = slN X) := Lib.hid (pk_slN HPK.out (Nat.le_refl _))
  have HBY := Lib.hid (pk_bgN HPK.out (Nat.le_refl _))
  clear hpk hopk
  generalize hYY : pk X (slN X) = Y at *
  have HYY := Lib.hid hYY
  clear hYY
  have CS := Lib.hid (slots_pg P Y w4 HP4.out)
  have e : get2 Y 0 = slN X := HSY.out
  rw [e] at CS
  clear e
  obtain ⟨G, hG⟩ : ∃ G, slN X = G := ⟨_, rfl⟩
  have HGG := Lib.hid hG
  rw [hG] at CS hql htop
  have CW := Lib.hid (setSlots_pg P M Y w4 HP4.out (by omega))
  have HMG : Hid (max G (q + 1) = M) := Lib.hid (by rw [← HGG.out]; exact HM.out)
  clear hG
  have fin : ∀ w6 w7, Pg w6 P (lay Y 0 (nb M 2)) → Only P w4 w6 → Pg w7 P (placeL (lay Y 0 (nb M 2)) q at_ (verL r a b P1 S1 d)) → Only P w6 w7 → Pg w7 P (placeL (lay (pk X (slN X)) 0 (nb (max (slN X) (q + 1)) 2)) q at_ (verL r a b P1 S1 d)) ∧ Only P w w7 := by
    intro w6 w7 h6 ho6 h7 ho7
    rw [HM.out, HYY.out]
    exact ⟨h7, (HO4.out.trans ho6).trans ho7⟩
  have HFIN := Lib.hid fin
  have plc : ∀ w6, Pg w6 P (lay Y 0 (nb M 2)) → Only P w4 w6 → Calls Try.prog 82 #[.pointer (some ⟨P, 0, none⟩), .int .i64 q, .slice (some ⟨V, 0, none⟩) (30 + n : Nat) (30 + n : Nat)] w6 fun e w' => e = .returned (.tuple #[]) ∧ Pg w' P (placeL (lay Y 0 (nb M 2)) q at_ (verL r a b P1 S1 d)) ∧ Only P w6 w' := by
    intro w6 h6 ho6
    have hb6 : BB w6 V 5 (verL r a b P1 S1 d) := ho6.blk HV.out (Ne.symm hPV)
    refine place_pg P q at_ (30 + n) (30 + n) _ _ ⟨V, 0, none⟩ w6 h6 ?_ (by omega) (by rw [verL_len, HD.out]) (by omega) (by have := HMG.out; omega) ?_
    · show get2 (lay Y 0 (nb M 2)) 2 = _
      rw [get2_other (by rw [nb_len, HP4.out.2]; omega) (by rw [nb_len]; omega)]
      have := HBY.out
      unfold bgN at this
      omega
    · intro j v hv
      rw [add_flat, Blk.cell hb6, List.getElem?_toArray]
      exact hv
  have HPLC := Lib.hid plc
  clear fin plc
  have hq8 : (q : Int) ≤ 127 := by omega
  rcases Nat.lt_or_ge q G with h | h
  · obtain rfl : M = G := by have := HMG.out; omega
    have h1 : (q : Int) + 1 ≤ M := by omega
    have h2 : max (M : Int) ((q : Int) + 1) = M := by omega
    clear h
    go_wp2_with fail
    refine CS.out.mono ?_
    rintro e w5 ⟨rfl, rfl⟩
    go_wp2_with fail
    refine CW.out.mono ?_
    rintro e w6 ⟨rfl, h6, ho6⟩
    go_wp2_with fail
    refine (HPLC.out w6 h6 ho6).mono ?_
    rintro e w7 ⟨rfl, h7, ho7⟩
    go_wp2_with fail
    go_ret2
    exact ⟨rfl, HFIN.out w6 w7 h6 ho6 h7 ho7⟩
  · obtain rfl : M = q + 1 := by have := HMG.out; omega
    have h1 : (G : Int) < (q : Int) + 1 := by omega
    have h2 : max (G : Int) ((q : Int) + 1) = (q : Int) + 1 := by omega
    clear h
    push_cast at CW
    go_wp2_with fail
    refine CS.out.mono ?_
    rintro e w5 ⟨rfl, rfl⟩
    go_wp2_with fail
    refine CW.out.mono ?_
    rintro e w6 ⟨rfl, h6, ho6⟩
    go_wp2_with fail
    refine (HPLC.out w6 h6 ho6).mono ?_
    rintro e w7 ⟨rfl, h7, ho7⟩
    go_wp2_with fail
    go_ret2
    exact ⟨rfl, HFIN.out w6 w7 h6 ho6 h7 ho7⟩
end Go.Proofs.Ythghnhcopmmmpaa.Mem
/- A page as slots and versions, and the one list of bytes that it is. -/
namespace Go.Proofs.Ythghnhcopmmmpaa.Mem
open Go.RowKit Go.Proofs.Ythghnhcopmmmpaa.Nums
set_option linter.unusedVariables false
set_option linter.unusedSimpArgs false
set_option maxRecDepth 100000
/-- a version: its numbers, one more than its Next's, its Data -/
structure Ver where
  r : Nat
  a : Nat
  b : Nat
  p : Nat
  s : Nat
  d : List UInt8
def Ver.bytes (v : Ver) : List UInt8 := verL v.r v.a v.b v.p v.s v.d
def Ver.sz (v : Ver) : Nat := 30 + v.d.length
theorem Ver.len (v : Ver) : v.bytes.length = v.sz := verL_len _ _ _ _ _ _
structure Ver.ok (v : Ver) : Prop where
  r : v.r ≤ 1099511627776
  a : v.a ≤ 1099511627776
  b : v.b ≤ 1099511627776
  p : v.p ≤ 65536
  s : v.s ≤ 65535
  ps : v.p = 0 ↔ v.s = 0
  d : v.d.length ≤ 200
/-- slots: free, or a version and where it begins -/
abbrev SL := List (Option (Ver × Nat))
def slotB : Option (Ver × Nat) → List UInt8
  | none => List.replicate 4 0
  | some (v, f) => nb f 2 ++ nb v.sz 2
def osz : Option (Ver × Nat) → Nat
  | none => 0
  | some (v, _) => v.sz
def tot (L : SL) : Nat := (L.map osz).sum
theorem slotB_len (o : Option (Ver × Nat)) : (slotB o).length = 4 := by
  cases o with
  | none => simp [slotB]
  | some x => simp [slotB, nb_len]
structure Has (X : List UInt8) (L : SL) (st : Nat) : Prop where
  len : X.length = 512
  sl : sub X 0 2 = nb L.length 2
  bg : sub X 2 2 = nb st 2
  top : 4 + 4 * L.length ≤ st
  all : st ≤ 512
  sum : st + tot L ≤ 512
  slot : ∀ (s : Nat) (o : Option (Ver × Nat)), L[s]? = some o → sub X (4 + 4 * s) 4 = slotB o
  ver : ∀ (s : Nat) (v : Ver) (f : Nat), L[s]? = some (some (v, f)) → sub X f v.sz = v.bytes ∧ st ≤ f ∧ f + v.sz ≤ 512
  apart : ∀ (s s' : Nat) (v : Ver) (f : Nat) (v' : Ver) (f' : Nat), L[s]? = some (some (v, f)) → L[s']? = some (some (v', f')) → s ≠ s' → f + v.sz ≤ f' ∨ f' + v'.sz ≤ f
  rest : ∀ i, 4 + 4 * L.length ≤ i → i < 512 → (∀ (s : Nat) (v : Ver) (f : Nat), L[s]? = some (some (v, f)) → i < f ∨ f + v.sz ≤ i) → X[i]? = some 0
  okv : ∀ (s : Nat) (v : Ver) (f : Nat), L[s]? = some (some (v, f)) → v.ok
section
variable {X Y : List UInt8} {L : SL} {st : Nat}
theorem Has.eq (h : Has X L st) (k : Has Y L st) : X = Y := by
  apply List.ext_getElem?
  intro i
  by_cases h0 : i < 512
  · by_cases h1 : i < 2
    · have e1 := get_of_sub h.sl h1
      have e2 := get_of_sub k.sl h1
      rw [Nat.zero_add] at e1 e2
      rw [e1, e2]
    · by_cases h2 : i < 4
      · have e1 := get_of_sub h.bg (j := i - 2) (by omega)
        have e2 := get_of_sub k.bg (j := i - 2) (by omega)
        rw [show 2 + (i - 2) = i by omega] at e1 e2
        rw [e1, e2]
      · by_cases h3 : i < 4 + 4 * L.length
        · obtain ⟨o, ho⟩ : ∃ o, L[(i - 4) / 4]? = some o := ⟨_, List.getElem?_eq_getElem (by omega)⟩
          have e1 := get_of_sub (h.slot _ o ho) (j := (i - 4) % 4) (by omega)
          have e2 := get_of_sub (k.slot _ o ho) (j := (i - 4) % 4) (by omega)
          rw [show 4 + 4 * ((i - 4) / 4) + (i - 4) % 4 = i by omega] at e1 e2
          rw [e1, e2]
        · by_cases h4 : ∀ (s : Nat) (v : Ver) (f : Nat), L[s]? = some (some (v, f)) → i < f ∨ f + v.sz ≤ i
          · rw [h.rest i (by omega) h0 h4, k.rest i (by omega) h0 h4]
          · simp only [Classical.not_forall] at h4
            obtain ⟨s, v, f, hs, hn⟩ := h4
            have e1 := get_of_sub (h.ver s v f hs).1 (j := i - f) (by omega)
            have e2 := get_of_sub (k.ver s v f hs).1 (j := i - f) (by omega)
            rw [show f + (i - f) = i by omega] at e1 e2
            rw [e1, e2]
  · rw [List.getElem?_eq_none (by rw [h.len]; omega), List.getElem?_eq_none (by rw [k.len]; omega)]
theorem Has.slN (h : Has X L st) : slN X = L.length := by
  show leN (sub X 0 2) = _
  have := h.top
  have := h.all
  rw [h.sl, leN_nb2 (by omega)]
theorem Has.bgN (h : Has X L st) : bgN X = st := by
  show leN (sub X 2 2) = _
  have := h.all
  rw [h.bg, leN_nb2 (by omega)]
theorem Has.le (h : Has X L st) {s : Nat} {o : Option (Ver × Nat)} (hs : L[s]? = some o) : s < L.length := (List.getElem?_eq_some_iff.1 hs).1
theorem Has.szS (h : Has X L st) {s : Nat} {o : Option (Ver × Nat)} (hs : L[s]? = some o) : szS X s = osz o := by
  show leN (sub X (6 + 4 * s) 2) = _
  have e := h.slot s o hs
  cases o with
  | none =>
    have e2 := sub_snd (X := X) (a := 4 + 4 * s) (m := 2) (n := 2) (b := List.replicate 2 0) (c := List.replicate 2 0) (by rw [e]; rfl) rfl rfl
    rw [show 4 + 4 * s + 2 = 6 + 4 * s by omega] at e2
    rw [e2]
    rfl
  | some x =>
    obtain ⟨v, f⟩ := x
    have e2 := sub_snd (X := X) (a := 4 + 4 * s) (m := 2) (n := 2) (b := nb f 2) (c := nb v.sz 2) e (nb_len _ _) (nb_len _ _)
    rw [show 4 + 4 * s + 2 = 6 + 4 * s by omega] at e2
    have := (h.ver s v f hs).2
    rw [e2, leN_nb2 (by omega)]
    rfl
theorem Has.frS (h : Has X L st) {s : Nat} {v : Ver} {f : Nat} (hs : L[s]? = some (some (v, f))) : frS X s = f := by
  show leN (sub X (4 + 4 * s) 2) = _
  have e2 := sub_fst (X := X) (a := 4 + 4 * s) (m := 2) (n := 2) (b := nb f 2) (c := nb v.sz 2) (h.slot s _ hs) (nb_len _ _)
  have := (h.ver s v f hs).2
  rw [e2, leN_nb2 (by omega)]
theorem Has.frS0 (h : Has X L st) {s : Nat} (hs : L[s]? = some none) : Mem.frS X s = 0 := by
  show leN (sub X (4 + 4 * s) 2) = _
  have e2 := sub_fst (X := X) (a := 4 + 4 * s) (m := 2) (n := 2) (b := List.replicate 2 0) (c := List.replicate 2 0) (by rw [h.slot s _ hs]; rfl) rfl
  rw [e2]
  rfl
theorem Has.fine (h : Has X L st) : Fine X := by
  have h1 := h.top
  have h2 := h.all
  refine ⟨by rw [h.slN]; omega, fun s hs => ?_⟩
  rw [h.slN] at hs
  obtain ⟨o, ho⟩ : ∃ o, L[s]? = some o := ⟨_, List.getElem?_eq_getElem hs⟩
  rw [h.szS ho]
  cases o with
  | none => rw [h.frS0 ho]; simp [osz]
  | some x => obtain ⟨v, f⟩ := x; rw [h.frS ho]; exact (h.ver s v f ho).2.2
theorem tot_take_succ {k : Nat} {o : Option (Ver × Nat)} (h : L[k]? = some o) : tot (L.take (k + 1)) = tot (L.take k) + osz o := by
  unfold tot
  rw [take_succ_of h, List.map_append, List.sum_append]
  simp
theorem Has.suN (h : Has X L st) : ∀ k, k ≤ L.length → suN X k = tot (L.take k)
  | 0, _ => by simp [Mem.suN, tot]
  | k + 1, hk => by
    obtain ⟨o, ho⟩ : ∃ o, L[k]? = some o := ⟨_, List.getElem?_eq_getElem (by omega)⟩
    show Mem.suN X k + Mem.szS X k = _
    rw [h.suN k (by omega), h.szS ho, tot_take_succ ho]
theorem Has.su (h : Has X L st) : Mem.suN X (Mem.slN X) = tot L := by
  rw [h.slN, h.suN _ (Nat.le_refl _), List.take_length]
/-- the slot that one more takes -/
def nextL (L : SL) : Nat := L.findIdx (·.isNone)
theorem nextL_le (L : SL) : nextL L ≤ L.length := List.findIdx_le_length
theorem nextL_full {j : Nat} (h : j < nextL L) : ∃ x, L[j]? = some (some x) := by
  have hl : j < L.length := Nat.lt_of_lt_of_le h (nextL_le L)
  have := List.not_of_lt_findIdx h
  cases hx : L[j] with
  | none => simp [hx] at this
  | some x => exact ⟨x, by rw [List.getElem?_eq_getElem hl, hx]⟩
theorem nextL_free (h : nextL L < L.length) : L[nextL L]? = some none := by
  have := List.findIdx_getElem (w := h)
  rw [List.getElem?_eq_getElem h]
  cases hx : L[nextL L] with
  | none => rfl
  | some x => unfold nextL at hx; simp [hx] at this
theorem Has.next (h : Has X L st) : IsNext X (nextL L) := by
  refine ⟨by rw [h.slN]; exact nextL_le L, fun j hj => ?_, fun hq => ?_⟩
  · obtain ⟨⟨v, f⟩, hx⟩ := nextL_full hj
    rw [h.szS hx]
    simp [osz, Ver.sz]
  · rw [h.slN] at hq
    rw [h.szS (nextL_free hq)]
    rfl
/-- how much one more may have -/
def roomL (L : SL) : Int := max (478 - 4 * (max L.length (nextL L + 1) : Nat) - (tot L : Nat)) (-1)
theorem Has.room (h : Has X L st) : roomN X (nextL L) = roomL L := by unfold roomN roomL; rw [h.su, h.slN]
theorem Has.pkOk (h : Has X L st) (hs : st < 512) : PkOk X :=
  ⟨h.len, h.fine, by rw [h.slN, ← h.slN, h.su, h.slN]; have := h.top; have := h.sum; omega, by rw [h.bgN]; exact hs, by rw [h.slN, h.bgN]; exact h.top⟩
end
end Go.Proofs.Ythghnhcopmmmpaa.Mem
/- lapidaryref03's Same, Copy, Cut at the page's seat; lapidaryref05.Far. -/
namespace Go.Proofs.Ythghnhcopmmmpaa.Mem
open Go.RowKit Go.Proofs.Ythghnhcopmmmpaa.Nums
set_option linter.unusedVariables false
set_option linter.unusedSimpArgs false
set_option maxRecDepth 100000
set_option maxHeartbeats 1000000
def str (x : List UInt8) : ByteArray := ⟨x.toArray⟩
theorem str_list (x : List UInt8) : (str x).toList = x := by rw [ByteArray.toList_eq]; simp [str]
theorem conv_sl {w : World} {B n c : Nat} {A : Option Addr} {x : List UInt8} (h : Sl w B 1 A n c (u8s x)) : (convert 31 9 (.slice A n c)).run Try.prog w = .ok (.string (str x)) w := by
  have hxl : x.length = n := by have := h.len; rw [u8s_len] at this; omega
  rw [run_convert_bytes_string w _ _ _ A n c Try.underlying31 Try.underlying5 Try.underlying9]
  have base : ∀ ad : Addr, A = some ad → (0 < n → At w B ad (u8s x)) → (Conv.bytesToString (.slice A n c)).run Try.prog w = .ok (.string (str x)) w := by
    intro ad hA ha
    subst hA
    have hl : (loadCells ad n).run Try.prog w = .ok ((x.map fun b => (b.toNat : Int)).map (Value.int .u8)).toArray w := by
      have hcells : ∀ j u, (u8s x)[j]? = some u → w.cell? (ad.add j) = some u := by
        rcases Nat.eq_zero_or_pos n with h0 | h0
        · have : x = [] := List.eq_nil_of_length_eq_zero (by omega)
          subst this; intro j u hu; simp [u8s] at hu
        · exact (ha h0).2
      have := run_loadCells_list (P := Try.prog) w ad (u8s x) hcells
      rw [u8s_len, hxl] at this
      rw [this]
      congr 2
      simp [u8s]
    rw [run_bytesToString w ad n c _ hl, foldl_push_bytes]
    congr 2
    apply ByteArray.ext
    simp [str, ByteArray.empty, ByteArray.emptyWithCapacity]
    show [] ++ List.map ((fun n => UInt8.ofNat n.toNat) ∘ fun b : UInt8 => (b.toNat : Int)) x = x
    rw [List.nil_append]
    conv => rhs; rw [← List.map_id x]
    apply List.map_congr_left
    intro b _
    simp
  cases A with
  | some ad => exact base ad rfl (fun h0 => by obtain ⟨ad', e, ha⟩ := h.at_ h0; injection e with e; subst e; exact ha)
  | none =>
    have hn : n = 0 := by have := h.le; have := h.nil rfl; omega
    have : x = [] := List.eq_nil_of_length_eq_zero (by omega)
    subst this hn
    simp [Conv.bytesToString, str]
    rfl
theorem same_any (x y : List UInt8) (A : Option Addr) (n c : Nat) (A' : Option Addr) (n' c' : Nat) (w : World) (hx : Sl w w.heap.size 1 A n c (u8s x)) (hy : Sl w w.heap.size 1 A' n' c' (u8s y)) :
    Calls Try.prog 18 #[.slice A n c, .slice A' n' c'] w fun e w' => e = .returned (.bool (decide (x = y))) ∧ w = w' := by
  have hcx := conv_sl hx
  have hcy := conv_sl hy
  have HX := Lib.hid hx
  have HY := Lib.hid hy
  have hs : (x == y) = decide (x = y) := by by_cases h : x = y <;> simp [h]
  have hsx := str_list x
  have hsy := str_list y
  clear hx hy
  go_enter Try.func18, Try.ntmps18
  go_wp2_with fail
  go_ret
  exact ⟨rfl, rfl⟩
theorem copy_any (x : List UInt8) (A : Option Addr) (n c : Nat) (w : World) (hx : Sl w w.heap.size 1 A n c (u8s x)) (hn : n ≤ 1000000) :
    Calls Try.prog 30 #[.slice A n c] w fun e w' => ∃ v, e = .returned v ∧ OwnB w' w.heap.size v n (u8s x) ∧ Below w.heap.size w w' := by
  have HX := Lib.hid hx
  clear hx
  go_enter Try.func30, Try.ntmps30
  go_wp2_with (at_builtin; go_loud (refine wpl_app_b rfl (.tmp 3) (.tmp 4) rfl w.heap.size _ 0 [] rfl (own_empty w) _ _ n _ rfl (HX.out.below (bel_alloc _ _)).lies (u8s_one _) (by omega) (by rw [size_alloc]; omega) ?_; intro v1 w1 hown1 hgrow1))
  go_ret
  exact ⟨_, rfl, own_eq hown1 (by omega) rfl, bel_app hgrow1⟩
theorem cut_any (x : List UInt8) (A : Option Addr) (n c m : Nat) (w : World) (hx : Sl w w.heap.size 1 A n c (u8s x)) (hm : m ≤ 1000000) :
    Calls Try.prog 29 #[.slice A n c, .int .i64 m] w fun e w' => ∃ v, e = .returned v ∧ OwnB w' w.heap.size v (min n m) (u8s (x.take m)) ∧ Below w.heap.size w w' := by
  have hc := hx.cap
  have hle := hx.le
  have HL : Hid (x.length = n) := Lib.hid (by have := hx.len; rw [u8s_len] at this; omega)
  unfold maxLen at hc
  obtain ⟨K, hK⟩ : ∃ K, min n m = K := ⟨_, rfl⟩
  have hKn : K ≤ n := by omega
  have hKm : K ≤ m := by omega
  have hKc : (K : Int) ≤ c := by omega
  have HE : Hid (x.take m = x.take K) := Lib.hid (by
    rcases Nat.le_total n m with h | h
    · rw [List.take_of_length_le (by rw [HL.out]; omega), List.take_of_length_le (by rw [HL.out]; omega)]
    · rw [show K = m by omega])
  have hxt := hx.take hKn
  rw [Nat.mul_one, u8s_take] at hxt
  have HX := Lib.hid hxt
  clear hxt
  rcases Nat.lt_or_ge m n with hmn | hmn
  · obtain rfl : K = m := by omega
    rw [hK]
    clear hx hK hle
    go_enter Try.func29, Try.ntmps29
    go_wp2_with (at_builtin; go_loud (refine wpl_app_b rfl (.tmp 5) (.tmp 11) rfl w.heap.size _ 0 [] rfl (own_empty w) _ _ K (u8s (x.take K)) rfl (HX.out.below (bel_alloc _ _)).lies (u8s_one _) (by omega) (by rw [size_alloc]; omega) ?_; intro v1 w1 hown1 hgrow1))
    go_ret
    exact ⟨_, rfl, own_eq hown1 (by omega) rfl, bel_app hgrow1⟩
  · obtain rfl : K = n := by omega
    have hmn2 : ¬ m < K := by omega
    rw [hK]
    clear hx hK hle
    go_enter Try.func29, Try.ntmps29
    go_wp2_with (at_builtin; go_loud (refine wpl_app_b rfl (.tmp 5) (.tmp 11) rfl w.heap.size _ 0 [] rfl (own_empty w) _ _ K (u8s (x.take K)) rfl (HX.out.below (bel_alloc _ _)).lies (u8s_one _) (by omega) (by rw [size_alloc]; omega) ?_; intro v1 w1 hown1 hgrow1))
    go_ret
    exact ⟨_, rfl, own_eq hown1 (by omega) (by rw [HE.out]; rfl), bel_app hgrow1⟩
theorem far_any (p s : Int) (w : World) : Calls Try.prog 40 #[.agg #[.int .i64 p, .int .i64 s]] w fun e w' => e = .returned (.bool (farB p s)) ∧ Below w.heap.size w w' := by
  have H0 : Hid (farB p s = if p = -1 ∧ s = -1 then false else decide (p < 0) || decide (65535 < p) || decide (s < 0) || decide (65534 < s)) := Lib.hid rfl
  by_cases q1 : p = -1
  · by_cases q2 : s = -1
    · subst q1 q2
      go_enter Try.func40, Try.ntmps40
      go_wp2_with fail
      go_ret
      exact ⟨rfl, bel_alloc _ _⟩
    · subst q1
      have q2b : (s == -1) = false := beq_eq_false_iff_ne.2 q2
      rw [if_neg (fun h => q2 h.2)] at H0
      go_enter Try.func40, Try.ntmps40
      go_wp2_with fail
      go_ret
      exact ⟨by rw [H0.out]; rfl, bel_alloc _ _⟩
  have q1b : (p == -1) = false := beq_eq_false_iff_ne.2 q1
  rw [if_neg (fun h => q1 h.1)] at H0
  by_cases h1 : p < 0
  · rw [decide_eq_true h1] at H0
    go_enter Try.func40, Try.ntmps40
    go_wp2_with fail
    go_ret
    exact ⟨by rw [H0.out]; rfl, bel_alloc _ _⟩
  rw [decide_eq_false h1] at H0
  by_cases h2 : 65535 < p
  · rw [decide_eq_true h2] at H0
    go_enter Try.func40, Try.ntmps40
    go_wp2_with fail
    go_ret
    exact ⟨by rw [H0.out]; rfl, bel_alloc _ _⟩
  rw [decide_eq_false h2] at H0
  by_cases h3 : s < 0
  · rw [decide_eq_true h3] at H0
    go_enter Try.func40, Try.ntmps40
    go_wp2_with fail
    go_ret
    exact ⟨by rw [H0.out]; rfl, bel_alloc _ _⟩
  rw [decide_eq_false h3] at H0
  by_cases h4 : 65534 < s
  · rw [decide_eq_true h4] at H0
    go_enter Try.func40, Try.ntmps40
    go_wp2_with fail
    go_ret
    exact ⟨by rw [H0.out]; rfl, bel_alloc _ _⟩
  · rw [decide_eq_false h4] at H0
    go_enter Try.func40, Try.ntmps40
    go_wp2_with fail
    go_ret
    exact ⟨by rw [H0.out]; rfl, bel_alloc _ _⟩
end Go.Proofs.Ythghnhcopmmmpaa.Mem
/- lapidaryref05's Right, Same, Few. -/
namespace Go.Proofs.Ythghnhcopmmmpaa.Mem
open Go.RowKit Go.Proofs.Ythghnhcopmmmpaa.Nums
set_option linter.unusedVariables false
set_option linter.unusedSimpArgs false
set_option maxRecDepth 100000
set_option maxHeartbeats 1000000
theorem rright_any (r a b : Nat) (p s : Int) (A : Option Addr) (n c : Nat) (w : World) :
    Calls Try.prog 39 #[.agg #[.int .u64 r, .int .u64 a, .int .u64 b, .int .i64 p, .int .i64 s, .slice A n c]] w fun e w' => e = .returned (.bool (tuOk r a b p s n)) ∧ Below w.heap.size w w' := by
  have H0 : Hid (tuOk r a b p s n = (decide (r ≤ 1099511627776) && decide (a ≤ 1099511627776) && decide (b ≤ 1099511627776) && nxOk p s && decide (n ≤ 200))) := Lib.hid rfl
  by_cases h1 : r ≤ 1099511627776
  rotate_left
  · rw [decide_eq_false h1] at H0
    have h1' : decide ((r : Int) ≤ 1099511627776) = false := decide_eq_false (by omega)
    go_enter Try.func39, Try.ntmps39
    go_wp2_with fail
    go_ret
    exact ⟨by rw [H0.out]; rfl, bel_alloc _ _⟩
  have h1' : decide ((r : Int) ≤ 1099511627776) = true := decide_eq_true (by omega)
  rw [decide_eq_true h1] at H0
  by_cases h2 : a ≤ 1099511627776
  rotate_left
  · rw [decide_eq_false h2] at H0
    have h2' : decide ((a : Int) ≤ 1099511627776) = false := decide_eq_false (by omega)
    go_enter Try.func39, Try.ntmps39
    go_wp2_with fail
    go_ret
    exact ⟨by rw [H0.out]; rfl, bel_alloc _ _⟩
  have h2' : decide ((a : Int) ≤ 1099511627776) = true := decide_eq_true (by omega)
  rw [decide_eq_true h2] at H0
  by_cases h3 : b ≤ 1099511627776
  rotate_left
  · rw [decide_eq_false h3] at H0
    have h3' : decide ((b : Int) ≤ 1099511627776) = false := decide_eq_false (by omega)
    go_enter Try.func39, Try.ntmps39
    go_wp2_with fail
    go_ret
    exact ⟨by rw [H0.out]; rfl, bel_alloc _ _⟩
  have h3' : decide ((b : Int) ≤ 1099511627776) = true := decide_eq_true (by omega)
  rw [decide_eq_true h3] at H0
  have hb4 := at_new w #[.int .u64 r, .int .u64 a, .int .u64 b, .int .i64 p, .int .i64 s, .slice A n c] 33
  have HD : Hid ((w.alloc (.cells #[.int .u64 r, .int .u64 a, .int .u64 b, .int .i64 p, .int .i64 s, .slice A n c] 33)).cell? ⟨w.heap.size, 5, none⟩ = some (.slice A n c)) := Lib.hid (by have h := hb4.2 5 (.slice A n c) rfl; rwa [add_flat] at h)
  clear hb4
  have CX := Lib.hid (far_any p s (w.alloc (.cells #[.int .u64 r, .int .u64 a, .int .u64 b, .int .i64 p, .int .i64 s, .slice A n c] 33)))
  rw [far_not] at CX
  obtain ⟨q, hq⟩ : ∃ q, nxOk p s = q := ⟨_, rfl⟩
  rw [hq] at H0 CX
  clear hq
  obtain ⟨q5, hq5⟩ : ∃ q5, decide (n ≤ 200) = q5 := ⟨_, rfl⟩
  have h5 : decide ((n : Int) ≤ 200) = q5 := by rw [← hq5]; congr 1; simp [Int.ofNat_le]; omega
  rw [hq5] at H0
  clear hq5
  cases q <;> cases q5
  all_goals (
    go_enter Try.func39, Try.ntmps39
    go_wp2_with fail
    refine CX.out.mono ?_
    rintro e w2 ⟨rfl, hb2⟩
    have HB2 := Lib.hid (bel_trans (bel_alloc w (.cells #[.int .u64 r, .int .u64 a, .int .u64 b, .int .i64 p, .int .i64 s, .slice A n c] 33)) hb2)
    have hd := (hb2.cell (p := ⟨w.heap.size, 5, none⟩) (by rw [size_alloc]; show w.heap.size < _; omega)).trans HD.out
    clear hb2
    simp only [Bool.not_true, Bool.not_false]
    go_wp2_with fail
    go_ret
    exact ⟨by rw [H0.out]; rfl, HB2.out⟩)
end Go.Proofs.Ythghnhcopmmmpaa.Mem
/- lapidaryref05's Same of two that are alike; Few. -/
namespace Go.Proofs.Ythghnhcopmmmpaa.Mem
open Go.RowKit Go.Proofs.Ythghnhcopmmmpaa.Nums
set_option linter.unusedVariables false
set_option linter.unusedSimpArgs false
set_option maxRecDepth 100000
set_option maxHeartbeats 1000000
theorem samet_yes (r a b : Nat) (p s : Int) (A A' : Option Addr) (n c n' c' : Nat) (x : List UInt8) (w : World) (hx : Sl w w.heap.size 1 A n c (u8s x)) (hy : Sl w w.heap.size 1 A' n' c' (u8s x)) :
    Calls Try.prog 28 #[.agg #[.int .u64 r, .int .u64 a, .int .u64 b, .int .i64 p, .int .i64 s, .slice A n c], .agg #[.int .u64 r, .int .u64 a, .int .u64 b, .int .i64 p, .int .i64 s, .slice A' n' c']] w fun e w' => e = .returned (.bool true) ∧ Below w.heap.size w w' := by
  have HB : Hid (Below w.heap.size w ((w.alloc (.cells #[.int .u64 r, .int .u64 a, .int .u64 b, .int .i64 p, .int .i64 s, .slice A n c] 33)).alloc (.cells #[.int .u64 r, .int .u64 a, .int .u64 b, .int .i64 p, .int .i64 s, .slice A' n' c'] 33))) := Lib.hid (bel_trans (bel_alloc _ _) (bel_alloc _ _))
  have HX := Lib.hid (hx.on HB.out)
  have HY := Lib.hid (hy.on HB.out)
  clear hx hy
  go_enter Try.func28, Try.ntmps28
  go_wp2_with fail
  refine (same_any x x A n c A' n' c' _ HX.out HY.out).mono ?_
  rintro e w2 ⟨rfl, rfl⟩
  simp only [decide_true]
  go_wp2_with fail
  go_ret
  exact ⟨rfl, HB.out⟩
/-- the zero version, told where nothing is -/
theorem few_ret {w : World} {b : Nat} {v0 v1 v2 v3 v4 v5 : Value} {tmps : Array Value} (h : Blk w b 33 #[v0, v1, v2, v3, v4, v5]) (h4 : tmps.getD 2 undef = .pointer (some ⟨b, 0, none⟩)) :
    (results Try.f37 tmps).run Try.prog w = .ok (.agg #[v0, v1, v2, v3, v4, v5]) w := by
  have r0 := h.cell 0
  have r1 := h.cell 1
  have r2 := h.cell 2
  have r3 := h.cell 3
  have r4 := h.cell 4
  have r5 := h.cell 5
  simp at r0 r1 r2 r3 r4 r5
  simp only [Array.getD_eq_getD_getElem?] at h4
  simp [results, Try.results37, go_sem, h4, r0, r1, r2, r3, r4, r5]
theorem few_any (r a b : Nat) (p s : Int) (A : Option Addr) (n c : Nat) (x : List UInt8) (w : World) (hx : Sl w w.heap.size 1 A n c (u8s x)) :
    Calls Try.prog 37 #[.agg #[.int .u64 r, .int .u64 a, .int .u64 b, .int .i64 p, .int .i64 s, .slice A n c]] w fun e w' => ∃ v, e = .returned (.agg #[.int .u64 r, .int .u64 a, .int .u64 b, .int .i64 p, .int .i64 s, v]) ∧ OwnB w' w.heap.size v (min n 230) (u8s (x.take 230)) ∧ Below w.heap.size w w' := by
  have HBB : Hid (Below w.heap.size w ((w.alloc (.cells #[.int .u64 r, .int .u64 a, .int .u64 b, .int .i64 p, .int .i64 s, .slice A n c] 33)).alloc (.cells #[.int .u64 0, .int .u64 0, .int .u64 0, .int .i64 0, .int .i64 0, .slice none 0 0] 33))) := Lib.hid (bel_trans (bel_alloc _ _) (bel_alloc _ _))
  have HX := Lib.hid (hx.on HBB.out)
  have C := Lib.hid (cut_any x A n c 230 _ HX.out (by omega))
  clear hx
  go_enter Try.func37, Try.ntmps37
  go_wp2_with fail
  refine C.out.mono ?_
  rintro e w2 ⟨v, rfl, hown, hb2⟩
  obtain ⟨Av, cv, hv, hsv⟩ := Sl.of_own hown
  subst hv
  obtain ⟨wz, hwz⟩ : ∃ wz, (w.alloc (.cells #[.int .u64 r, .int .u64 a, .int .u64 b, .int .i64 p, .int .i64 s, .slice A n c] 33)).alloc (.cells #[.int .u64 0, .int .u64 0, .int .u64 0, .int .i64 0, .int .i64 0, .slice none 0 0] 33) = wz := ⟨_, rfl⟩
  have hzs : wz.heap.size = w.heap.size + 2 := by rw [← hwz, size_alloc, size_alloc]
  have hk0 : Blk wz w.heap.size 33 #[.int .u64 r, .int .u64 a, .int .u64 b, .int .i64 p, .int .i64 s, .slice A n c] := by rw [← hwz]; exact Blk.alloc (Blk.new w _ _) _
  have hk1 : Blk wz (w.heap.size + 1) 33 #[.int .u64 0, .int .u64 0, .int .u64 0, .int .i64 0, .int .i64 0, .slice none 0 0] := by
    rw [← hwz]
    have h := Blk.new (w.alloc (.cells #[.int .u64 r, .int .u64 a, .int .u64 b, .int .i64 p, .int .i64 s, .slice A n c] 33)) 33 #[.int .u64 0, .int .u64 0, .int .u64 0, .int .i64 0, .int .i64 0, .slice none 0 0]
    rwa [size_alloc] at h
  rw [hwz] at hb2 hown HBB
  rw [hzs] at hown hb2
  have HK0 := Lib.hid (Blk.below hk0 hb2 (by omega))
  have HK1 := Lib.hid (Blk.below hk1 hb2 (by omega))
  have HOWN := Lib.hid hown
  have HB2 := Lib.hid (HBB.out.trans (hb2.mono (by omega)))
  have x0 := HK0.out.cell 0
  have x1 := HK0.out.cell 1
  have x2 := HK0.out.cell 2
  have x3 := HK0.out.cell 3
  have x4 := HK0.out.cell 4
  have x5 := HK0.out.cell 5
  have f5 := HK0.out.frozen 5
  have HK2 := Lib.hid (Blk.set_ HK0.out 5 (.slice Av (min n 230) cv))
  have HK3 := Lib.hid (Blk.far HK1.out (p := ⟨w.heap.size, 5, none⟩) (by show w.heap.size + 1 ≠ w.heap.size; omega) (.slice Av (min n 230) cv))
  have q0 := HK3.out.cell 0
  have q1 := HK3.out.cell 1
  have q2 := HK3.out.cell 2
  have q3 := HK3.out.cell 3
  have q4 := HK3.out.cell 4
  have q5 := HK3.out.cell 5
  have p0 := HK3.out.frozen 0
  have p1 := HK3.out.frozen 1
  have p2 := HK3.out.frozen 2
  have p3 := HK3.out.frozen 3
  have p4 := HK3.out.frozen 4
  have p5 := HK3.out.frozen 5
  have z0 := HK2.out.cell 0
  have z1 := HK2.out.cell 1
  have z2 := HK2.out.cell 2
  have z3 := HK2.out.cell 3
  have z4 := HK2.out.cell 4
  have z5 := HK2.out.cell 5
  simp at z0 z1 z2 z3 z4 z5
  clear hwz hk0 hk1 hown hb2 hsv C HX
  go_wp2_with fail
  have HF := Lib.hid (Blk.put6 HK3.out (.int .u64 r) (.int .u64 a) (.int .u64 b) (.int .i64 p) (.int .i64 s) (.slice Av (min n 230) cv))
  exact bodyPost_ret (few_ret HF.out rfl) rfl ⟨_, rfl, own_keep (own_mono HOWN.out (by omega)) (fun k hk => by
    have h1 := (HOWN.out.lt k hk).1
    exact (put6_other _ _ _ _ _ _ _ _ k (by omega)).trans (Below.heap_setCell _ ⟨w.heap.size, 5, none⟩ _ k (by show k ≠ w.heap.size; omega))), Below.put6 (HB2.out.setCell (p := ⟨w.heap.size, 5, none⟩) (Nat.le_refl _) _) (by omega) _ _ _ _ _ _⟩
end Go.Proofs.Ythghnhcopmmmpaa.Mem
/- lapidarylaw05.awake: the document's example. -/
namespace Go.Proofs.Ythghnhcopmmmpaa.Mem
open Go.RowKit Go.Proofs.Ythghnhcopmmmpaa.Nums
set_option linter.unusedVariables false
set_option linter.unusedSimpArgs false
set_option maxRecDepth 100000
set_option maxHeartbeats 1000000
theorem nowhere_any (w : World) : Calls Try.prog 33 #[] w fun e w' => e = .returned (.agg #[.int .i64 (-1), .int .i64 (-1)]) ∧ Below w.heap.size w w' := by
  go_enter Try.func33, Try.ntmps33
  go_wp2_with fail
  exact bodyPost_ret (v := .agg #[.int .i64 (-1), .int .i64 (-1)]) (by simp [results, Try.results33, go_sem]) rfl ⟨rfl, by repeat (first | exact Below.refl _ _ | exact bel_alloc _ _ | refine Below.setCell ?_ (Nat.le_refl _) _)⟩
theorem x0_len : X0.length = 512 := by kernel_rfl
theorem x0_sl : slN X0 = 0 := by kernel_rfl
theorem x0_bg : bgN X0 = 512 := by kernel_rfl
theorem x0_fine : Fine X0 := ⟨by rw [x0_sl]; omega, fun s h => by rw [x0_sl] at h; omega⟩
theorem x0_next : IsNext X0 0 := ⟨by omega, fun j h => absurd h (by omega), fun h => by rw [x0_sl] at h; omega⟩
theorem x0_room : roomN X0 0 = 474 := by unfold roomN; rw [x0_sl]; rfl
def X1 : List UInt8 := placeL (lay X0 0 (nb 1 2)) 0 481 (verL 1 1 0 0 0 [97])
theorem x1_sl : slN X1 = 1 := by kernel_rfl
theorem x1_fr : frS X1 0 = 481 := by kernel_rfl
theorem x1_sz : szS X1 0 = 31 := by kernel_rfl
theorem x1_fine : Fine X1 := ⟨by rw [x1_sl]; omega, fun s h => by rw [x1_sl] at h; obtain rfl : s = 0 := (by omega); rw [x1_fr, x1_sz]; decide⟩
theorem x1_next : IsNext X1 1 := ⟨by rw [x1_sl]; omega, fun j h => by obtain rfl : j = 0 := (by omega); rw [x1_sz]; decide, fun h => by rw [x1_sl] at h; omega⟩
theorem x1_room : roomN X1 1 = 439 := by
  unfold roomN
  rw [x1_sl, show suN X1 1 = 31 by show 0 + szS X1 0 = 31; rw [x1_sz]]
  rfl
def X2 : List UInt8 := lay (freeL X1 0 481 31) 0 (nb 0 2)
theorem y1_sz : szS (freeL X1 0 481 31) 0 = 0 := by kernel_rfl
theorem x2_sl : slN X2 = 0 := by kernel_rfl
theorem x2_fine : Fine X2 := ⟨by rw [x2_sl]; omega, fun s h => by rw [x2_sl] at h; omega⟩
theorem x2_next : IsNext X2 0 := ⟨by omega, fun j h => absurd h (by omega), fun h => by rw [x2_sl] at h; omega⟩
theorem x2_room : roomN X2 0 = 474 := by unfold roomN; rw [x2_sl]; rfl
theorem awake5 (w : World) : Calls Try.prog 14 #[] w fun e w' => e = .returned (.bool true) ∧ Below w.heap.size w w' := by
  obtain ⟨P, hP⟩ : ∃ P, w.heap.size = P := ⟨_, rfl⟩
  have HPE := Lib.hid hP
  go_enter Try.func14, Try.ntmps14
  go_wp2_with fail
  refine (new_pg w).mono ?_
  rintro e w1 ⟨rfl, hp1, hb1⟩
  rw [hP] at hp1 hb1 ⊢
  have HP1 := Lib.hid hp1
  have HB1 := Lib.hid hb1
  have CR := Lib.hid (room_q P 0 X0 w1 hp1 x0_fine x0_next)
  rw [x0_room] at CR
  clear hp1 hb1 hP
  go_wp2_with fail
  refine CR.out.mono ?_
  rintro e w2 ⟨rfl, m, rfl⟩
  go_wp2_with fail
  refine (nowhere_any _).mono ?_
  rintro e w3 ⟨rfl, hb3⟩
  have HB3' : Hid (Below w1.heap.size (w1.drewN m) w3) := Lib.hid hb3
  have HP3 : Hid (Pg w3 P X0) := Lib.hid ⟨Blk.below (w := w1.drewN m) (HP1.out.drewN m).1 HB3'.out (Blk.lt HP1.out.1), HP1.out.2⟩
  have HB3 : Hid (Below P w w3) := Lib.hid ((show Below P w (w1.drewN m) from ⟨HB1.out.os, HB1.out.tape, HB1.out.output, HB1.out.size, HB1.out.block⟩).trans (HB3'.out.mono (by have := Blk.lt HP1.out.1; omega)))
  clear hb3
  have hcv := Lib.run_convert_bytes_const (P := Try.prog) w3 31 5 #[.int .u8 97] 1 1 Try.underlying31 Try.underlying5
  go_wp2_with fail
  clear hcv
  have HP4 : Hid (∀ fr, Pg (w3.alloc (.cells #[.int .u8 97] 5 fr)) P X0) := Lib.hid fun fr => ⟨Blk.alloc HP3.out.1 _, HP3.out.2⟩
  have HS4 : Hid (∀ fr, Sl (w3.alloc (.cells #[.int .u8 97] 5 fr)) (w3.alloc (.cells #[.int .u8 97] 5 fr)).heap.size 1 (some ⟨w3.heap.size, 0, none⟩) 1 1 (u8s [97])) := Lib.hid fun fr => ⟨rfl, Nat.le_refl _, by unfold maxLen; omega, (fun e => by cases e), fun _ => ⟨_, rfl, by rw [size_alloc]; exact Nat.lt_succ_self _, fun j u hu => by
    rw [add_flat, World.cell?_alloc_mark]
    have h1 : j = 0 := by
      rcases Nat.eq_zero_or_pos j with h | h
      · exact h
      · rw [List.getElem?_eq_none (by rw [u8s_len]; exact h)] at hu; cases hu
    subst h1
    exact hu⟩⟩
  refine (insert_ok P 0 1 1 0 0 0 1 1 481 (-1) (-1) (some ⟨w3.heap.size, 0, none⟩) [97] X0 _ (HP4.out _) x0_fine x0_next rfl (HS4.out _) rfl (by omega) (by omega) (by omega) rfl rfl (by omega) (by omega) (by omega) (by rw [x0_room]; decide) (by rw [x0_bg]) (by rw [x0_sl]; decide) (by omega)).mono ?_
  rintro e w5 ⟨rfl, hp5, ho5⟩
  rw [x0_sl] at hp5
  have HP5 : Hid (Pg w5 P X1) := Lib.hid hp5
  have HB5 : Hid (Below P w w5) := Lib.hid ((HB3.out.trans ((bel_alloc w3 _).mono (Nat.le_of_lt (Blk.lt HP3.out.1)))).trans (ho5.below (by rw [size_alloc]; have := Blk.lt HP3.out.1; omega) (Nat.le_refl _)))
  have CR5 := Lib.hid (room_q P 1 X1 w5 HP5.out x1_fine x1_next)
  rw [x1_room] at CR5
  clear hp5 ho5
  go_wp2_with fail
  refine CR5.out.mono ?_
  rintro e w6 ⟨rfl, m6, rfl⟩
  have CF := Lib.hid (free_pg P 0 481 31 X1 (w5.drewN m6) (HP5.out.drewN m6) x1_fine (by rw [x1_sl]; omega) x1_fr x1_sz (by omega) (by rw [x1_sl]; omega))
  go_wp2_with fail
  refine CF.out.mono ?_
  rintro e w7 ⟨rfl, k, hk, hall, hlast, hp7, ho7⟩
  obtain rfl : k = 0 := by
    rw [x1_sl] at hk
    rcases Nat.eq_zero_or_pos k with h | h
    · exact h
    · obtain rfl : k = 1 := by omega
      exact absurd y1_sz (hlast h)
  have HP7 : Hid (Pg w7 P X2) := Lib.hid hp7
  have HB7 : Hid (Below P w w7) := Lib.hid (HB5.out.trans ((show Only P w5 (w5.drewN m6) from ⟨rfl, rfl, rfl, Nat.le_refl _, fun _ _ _ => rfl⟩).trans ho7 |>.below (Nat.le_of_lt (Blk.lt HP5.out.1)) (Nat.le_refl _)))
  have CS7 := Lib.hid (slots_pg P X2 w7 HP7.out)
  have e7 : get2 X2 0 = 0 := x2_sl
  rw [e7] at CS7
  have CR7 := Lib.hid (room_q P 0 X2 w7 HP7.out x2_fine x2_next)
  rw [x2_room] at CR7
  clear hp7 ho7 hk hall hlast e7
  go_wp2_with fail
  refine CS7.out.mono ?_
  rintro e w8 ⟨rfl, rfl⟩
  go_wp2_with fail
  refine CR7.out.mono ?_
  rintro e w8 ⟨rfl, m8, rfl⟩
  go_wp2_with fail
  go_ret
  exact ⟨rfl, by rw [HPE.out]; exact ⟨HB7.out.os, HB7.out.tape, HB7.out.output, HB7.out.size, HB7.out.block⟩⟩
end Go.Proofs.Ythghnhcopmmmpaa.Mem
/- Where a version's bytes lie in a page behind place and stamp. -/
namespace Go.Proofs.Ythghnhcopmmmpaa.Mem
open Go.RowKit Go.Proofs.Ythghnhcopmmmpaa.Nums
set_option linter.unusedVariables false
set_option linter.unusedSimpArgs false
set_option maxRecDepth 100000
theorem lay_front {A B b : List UInt8} {c : Nat} (h : c + b.length ≤ A.length) : lay (A ++ B) c b = lay A c b ++ B := by
  unfold lay
  rw [List.take_append_of_le_length (by omega), List.drop_append_of_le_length h]
  simp only [List.append_assoc]
/-- behind place the version's bytes stand at their place -/
theorem placeL_mid {X vl : List UInt8} {s at_ : Nat} (hX : X.length = 512) (h1 : at_ + vl.length ≤ 512) (h2 : 8 + 4 * s ≤ at_) : ∃ pre post, placeL X s at_ vl = pre ++ (vl ++ post) ∧ pre.length = at_ := by
  have e0 : lay X at_ vl = X.take at_ ++ (vl ++ X.drop (at_ + vl.length)) := by unfold lay; rw [List.append_assoc]
  have l0 : (X.take at_).length = at_ := by rw [List.length_take]; omega
  have l1 := lay_len (X := X.take at_) (b := nb at_ 2) (a := 2) (by rw [nb_len, l0]; omega)
  have l2 := lay_len (X := lay (X.take at_) 2 (nb at_ 2)) (b := nb at_ 2) (a := 4 + 4 * s) (by rw [nb_len, l1, l0]; omega)
  have l3 := lay_len (X := lay (lay (X.take at_) 2 (nb at_ 2)) (4 + 4 * s) (nb at_ 2)) (b := nb vl.length 2) (a := 6 + 4 * s) (by rw [nb_len, l2, l1, l0]; omega)
  refine ⟨lay (lay (lay (X.take at_) 2 (nb at_ 2)) (4 + 4 * s) (nb at_ 2)) (6 + 4 * s) (nb vl.length 2), X.drop (at_ + vl.length), ?_, by rw [l3, l2, l1, l0]⟩
  unfold placeL
  rw [e0, lay_front (by rw [nb_len, l0]; omega), lay_front (by rw [nb_len, l1, l0]; omega), lay_front (by rw [nb_len, l2, l1, l0]; omega)]
/-- stamp turns the end and the next of a version that stands there, and nothing else -/
theorem stampL_mid (pre post d : List UInt8) (r a b P1 S1 U P2 S2 f : Nat) (hf : pre.length = f) : stampL (pre ++ (verL r a b P1 S1 d ++ post)) f U P2 S2 = pre ++ (verL r a U P2 S2 d ++ post) := by
  unfold stampL verL
  have e1 : lay (pre ++ (nb r 8 ++ (nb a 8 ++ (nb b 8 ++ (nb P1 4 ++ (nb S1 2 ++ d)))) ++ post)) (f + 16) (nb U 8) = pre ++ (nb r 8 ++ (nb a 8 ++ (nb U 8 ++ (nb P1 4 ++ (nb S1 2 ++ d)))) ++ post) := by
    have h := lay_mid (x := pre ++ nb r 8 ++ nb a 8) (y := nb b 8) (z := nb P1 4 ++ (nb S1 2 ++ (d ++ post))) (b := nb U 8) (a := f + 16) (by simp only [List.length_append, nb_len, hf]) (by rw [nb_len, nb_len])
    simp only [List.append_assoc] at h ⊢
    exact h
  have e2 : lay (pre ++ (nb r 8 ++ (nb a 8 ++ (nb U 8 ++ (nb P1 4 ++ (nb S1 2 ++ d)))) ++ post)) (f + 24) (nb P2 4) = pre ++ (nb r 8 ++ (nb a 8 ++ (nb U 8 ++ (nb P2 4 ++ (nb S1 2 ++ d)))) ++ post) := by
    have h := lay_mid (x := pre ++ nb r 8 ++ nb a 8 ++ nb U 8) (y := nb P1 4) (z := nb S1 2 ++ (d ++ post)) (b := nb P2 4) (a := f + 24) (by simp only [List.length_append, nb_len, hf]) (by rw [nb_len, nb_len])
    simp only [List.append_assoc] at h ⊢
    exact h
  have e3 : lay (pre ++ (nb r 8 ++ (nb a 8 ++ (nb U 8 ++ (nb P2 4 ++ (nb S1 2 ++ d)))) ++ post)) (f + 28) (nb S2 2) = pre ++ (nb r 8 ++ (nb a 8 ++ (nb U 8 ++ (nb P2 4 ++ (nb S2 2 ++ d)))) ++ post) := by
    have h := lay_mid (x := pre ++ nb r 8 ++ nb a 8 ++ nb U 8 ++ nb P2 4) (y := nb S1 2) (z := d ++ post) (b := nb S2 2) (a := f + 28) (by simp only [List.length_append, nb_len, hf]) (by rw [nb_len, nb_len])
    simp only [List.append_assoc] at h ⊢
    exact h
  rw [e1, e2, e3]
/-- bytes in the middle, as a number -/
theorem getN_mid {x y z : List UInt8} {f m : Nat} (hf : x.length = f) (hm : y.length = m) : getN (x ++ (y ++ z)) f m = leN y := by
  unfold getN
  rw [← hf, List.drop_left, ← hm, List.take_left]
theorem getN_ver (pre post d : List UInt8) (r a b P1 S1 f : Nat) (hf : pre.length = f) (hr : r < 18446744073709551616) (ha : a < 18446744073709551616) (hb : b < 18446744073709551616) (hP : P1 ≤ 65536) (hS : S1 ≤ 65535) :
    getN (pre ++ (verL r a b P1 S1 d ++ post)) f 8 = r ∧ getN (pre ++ (verL r a b P1 S1 d ++ post)) (f + 8) 8 = a ∧ getN (pre ++ (verL r a b P1 S1 d ++ post)) (f + 16) 8 = b ∧ getN (pre ++ (verL r a b P1 S1 d ++ post)) (f + 24) 4 = P1 ∧ getN (pre ++ (verL r a b P1 S1 d ++ post)) (f + 28) 2 = S1 ∧ ((pre ++ (verL r a b P1 S1 d ++ post)).drop (f + 30)).take d.length = d := by
  unfold verL
  simp only [List.append_assoc]
  refine ⟨?_, ?_, ?_, ?_, ?_, ?_⟩
  · rw [getN_mid hf (nb_len r 8), leN_nb r 8 hr]
  · rw [← List.append_assoc, getN_mid (by rw [List.length_append, nb_len, hf]) (nb_len a 8), leN_nb a 8 ha]
  · rw [← List.append_assoc, ← List.append_assoc, getN_mid (by simp only [List.length_append, nb_len, hf]) (nb_len b 8), leN_nb b 8 hb]
  · rw [← List.append_assoc, ← List.append_assoc, ← List.append_assoc, getN_mid (by simp only [List.length_append, nb_len, hf]) (nb_len P1 4), leN_nb P1 4 (by omega)]
  · rw [← List.append_assoc, ← List.append_assoc, ← List.append_assoc, ← List.append_assoc, getN_mid (by simp only [List.length_append, nb_len, hf]) (nb_len S1 2), leN_nb S1 2 (by omega)]
  · rw [← List.append_assoc, ← List.append_assoc, ← List.append_assoc, ← List.append_assoc, ← List.append_assoc, List.drop_left' (by simp only [List.length_append, nb_len, hf]), List.take_left]
/-- a new page behind one Insert -/
structure One (X : List UInt8) (f n : Nat) : Prop where
  sl : slN X = 1
  fr : frS X 0 = f
  sz : szS X 0 = 30 + n
  fit : f + (30 + n) ≤ 512
theorem One.fine {X : List UInt8} {f n : Nat} (h : One X f n) : Fine X :=
  ⟨by rw [h.sl]; omega, fun s hs => by rw [h.sl] at hs; obtain rfl : s = 0 := (by omega); rw [h.fr, h.sz]; exact h.fit⟩
theorem one_place (vl : List UInt8) (n at_ : Nat) (hv : vl.length = 30 + n) (hn : n ≤ 200) (hat : at_ + (30 + n) = 512) : One (placeL (lay X0 0 (nb 1 2)) 0 at_ vl) at_ n := by
  have z0 : (lay X0 0 (nb 1 2)).length = 512 := by rw [lay_len (by rw [nb_len, x0_len]; omega), x0_len]
  have e1 := lay_len (X := lay X0 0 (nb 1 2)) (b := vl) (a := at_) (by omega)
  have e2 := lay_len (X := lay (lay X0 0 (nb 1 2)) at_ vl) (b := nb at_ 2) (a := 2) (by rw [nb_len, e1, z0]; omega)
  have e3 := lay_len (X := lay (lay (lay X0 0 (nb 1 2)) at_ vl) 2 (nb at_ 2)) (b := nb at_ 2) (a := 4 + 4 * 0) (by rw [nb_len, e2, e1, z0]; omega)
  refine ⟨?_, ?_, ?_, by omega⟩
  · unfold slN placeL
    rw [get2_other (by rw [nb_len, e3, e2, e1, z0]; omega) (by rw [nb_len]; omega), get2_other (by rw [nb_len, e2, e1, z0]; omega) (by rw [nb_len]; omega), get2_other (by rw [nb_len, e1, z0]; omega) (by rw [nb_len]; omega), get2_other (by rw [z0]; omega) (by omega), get2_same (by rw [nb_len, x0_len]; omega) (nb_len _ _)]
    rfl
  · unfold frS placeL
    rw [get2_other (by rw [nb_len, e3, e2, e1, z0]; omega) (by rw [nb_len]; omega), get2_same (by rw [nb_len, e2, e1, z0]; omega) (nb_len _ _), leN_nb at_ 2 (by omega)]
  · unfold szS placeL
    rw [get2_same (by rw [nb_len, e3, e2, e1, z0]; omega) (nb_len _ _), leN_nb vl.length 2 (by omega), hv]
theorem one_stamp {X : List UInt8} {f n U P1 S1 : Nat} (hX : X.length = 512) (h : One X f n) (hf : 8 ≤ f) : One (stampL X f U P1 S1) f n := by
  have hfit := h.fit
  have e1 := lay_len (X := X) (b := nb U 8) (a := f + 16) (by rw [nb_len]; omega)
  have e2 := lay_len (X := lay X (f + 16) (nb U 8)) (b := nb P1 4) (a := f + 24) (by rw [nb_len, e1]; omega)
  have g : ∀ c, c + 2 ≤ 8 → get2 (stampL X f U P1 S1) c = get2 X c := fun c hc => by
    unfold stampL
    rw [get2_other (by rw [nb_len, e2, e1]; omega) (by omega), get2_other (by rw [nb_len, e1]; omega) (by omega), get2_other (by rw [nb_len]; omega) (by omega)]
  exact ⟨(g 0 (by omega)).trans h.sl, (g 4 (by omega)).trans h.fr, (g 6 (by omega)).trans h.sz, h.fit⟩
theorem One.used {X : List UInt8} {f n : Nat} (h : One X f n) : usN X (slN X) = 1 := by
  rw [h.sl]
  show 0 + (if szS X 0 = 0 then 0 else 1) = 1
  rw [h.sz, if_neg (by omega)]
end Go.Proofs.Ythghnhcopmmmpaa.Mem
/- What Insert, pack, Stamp and Free make of a page, as slots and versions. -/
namespace Go.Proofs.Ythghnhcopmmmpaa.Mem
open Go.RowKit Go.Proofs.Ythghnhcopmmmpaa.Nums
set_option linter.unusedVariables false
set_option linter.unusedSimpArgs false
set_option maxRecDepth 100000
theorem one_of {A B : List UInt8} {i : Nat} (h : sub A i 1 = sub B i 1) : A[i]? = B[i]? := by
  have e : (sub A i 1)[0]? = (sub B i 1)[0]? := by rw [h]
  rwa [sub_get (by omega), sub_get (by omega), Nat.add_zero] at e
/-- a slot filled, or one more -/
def putL (L : SL) (q : Nat) (x : Option (Ver × Nat)) : SL := if q < L.length then L.set q x else L ++ [x]
section
variable {L : SL} {q : Nat} {x : Option (Ver × Nat)}
theorem putL_len (hq : q ≤ L.length) : (putL L q x).length = max L.length (q + 1) := by
  unfold putL
  split
  · rw [List.length_set]; omega
  · rw [List.length_append]; simp; omega
theorem putL_get (hq : q ≤ L.length) (j : Nat) : (putL L q x)[j]? = if j = q then some x else L[j]? := by
  unfold putL
  split
  · rename_i h
    rw [List.getElem?_set]
    by_cases hj : q = j
    · subst hj; rw [if_pos rfl, if_pos rfl, if_pos h]
    · rw [if_neg hj, if_neg (Ne.symm hj)]
  · obtain rfl : q = L.length := by omega
    by_cases hj : j = L.length
    · subst hj; rw [if_pos rfl, List.getElem?_append_right (Nat.le_refl _), Nat.sub_self]; rfl
    · rw [if_neg hj]
      by_cases hl : j < L.length
      · rw [List.getElem?_append_left hl]
      · rw [List.getElem?_append_right (by omega), List.getElem?_eq_none (by simp; omega), List.getElem?_eq_none (by omega)]
theorem tot_set : ∀ (L : SL) (q : Nat) (x y : Option (Ver × Nat)), L[q]? = some y → tot (L.set q x) + osz y = tot L + osz x
  | [], q, x, y, h => by simp at h
  | o :: l, 0, x, y, h => by
    simp at h; subst h
    simp [tot]; omega
  | o :: l, q + 1, x, y, h => by
    have := tot_set l q x y (by simpa using h)
    simp [tot] at this ⊢; omega
theorem putL_tot (hq : q ≤ L.length) (hf : q < L.length → L[q]? = some none) : tot (putL L q x) = tot L + osz x := by
  unfold putL
  split
  · rename_i h
    have := tot_set L q x none (hf h)
    simpa [osz] using this
  · simp [tot]
end
section
variable {X : List UInt8} {L : SL} {st : Nat}
theorem Has.insert (h : Has X L st) {v : Ver} {at_ M : Nat} (hv : v.ok) (hat : at_ + v.sz = st) (hM : max L.length (nextL L + 1) = M) (hfit : 4 + 4 * M ≤ at_) :
    Has (placeL (lay X 0 (nb M 2)) (nextL L) at_ v.bytes) (putL L (nextL L) (some (v, at_))) at_ := by
  have hq := nextL_le L
  have hfree : nextL L < L.length → L[nextL L]? = some none := nextL_free
  generalize nextL L = q at *
  have hall := h.all
  have hvl := v.len
  have hY : (lay X 0 (nb M 2)).length = 512 := by rw [lay_len (by rw [nb_len, h.len]; omega), h.len]
  have sY : ∀ {c m : Nat}, 2 ≤ c → sub (lay X 0 (nb M 2)) c m = sub X c m := fun hc => sub_other (by rw [nb_len, h.len]; omega) (by rw [nb_len]; omega)
  have hL := putL_len (x := some (v, at_)) hq
  have hget := putL_get (x := some (v, at_)) hq
  rw [hM] at hL
  refine ⟨placeL_len hY (by omega) (by omega), ?_, place_bg hY (by omega) (by omega), by rw [hL]; exact hfit, by omega, ?_, ?_, ?_, ?_, ?_, ?_⟩
  · rw [hL, place_sub hY (by omega) (by omega) (by omega) (by omega) (by omega)]
    have := sub_same (X := X) (b := nb M 2) (a := 0) (by rw [nb_len, h.len]; omega)
    rwa [nb_len] at this
  · rw [putL_tot hq hfree]
    have := h.sum
    show at_ + (tot L + v.sz) ≤ 512
    omega
  · intro s o hs
    rw [hget] at hs
    by_cases he : s = q
    · subst he
      rw [if_pos rfl] at hs
      injection hs with hs
      subst hs
      rw [place_slot hY (by omega) (by omega), hvl]
      rfl
    · rw [if_neg he] at hs
      have := h.le hs
      rw [place_sub hY (by omega) (by omega) (by omega) (by omega) (by omega), sY (by omega)]
      exact h.slot s o hs
  · intro s u f hs
    rw [hget] at hs
    by_cases he : s = q
    · subst he
      rw [if_pos rfl] at hs
      injection hs with hs; injection hs with hs; injection hs with h1 h2
      subst h1 h2
      have := place_ver (X := lay X 0 (nb M 2)) (vl := v.bytes) (s := s) (at_ := at_) hY (by omega) (by omega)
      rw [hvl] at this
      exact ⟨this, Nat.le_refl _, by omega⟩
    · rw [if_neg he] at hs
      obtain ⟨h1, h2, h3⟩ := h.ver s u f hs
      rw [place_sub hY (by omega) (by omega) (by omega) (by omega) (by omega), sY (by omega)]
      exact ⟨h1, by omega, h3⟩
  · intro s s' u f u' f' hs hs' hne
    rw [hget] at hs hs'
    by_cases he : s = q
    · subst he
      rw [if_pos rfl] at hs
      rw [if_neg (Ne.symm hne)] at hs'
      injection hs with hs; injection hs with hs; injection hs with h1 h2
      subst h1 h2
      have := h.ver s' u' f' hs'
      omega
    · rw [if_neg he] at hs
      by_cases he' : s' = q
      · subst he'
        rw [if_pos rfl] at hs'
        injection hs' with hs'; injection hs' with hs'; injection hs' with h1 h2
        subst h1 h2
        have := h.ver s u f hs
        omega
      · rw [if_neg he'] at hs'
        exact h.apart s s' u f u' f' hs hs' hne
  · intro i h1 h2 h3
    rw [hL] at h1
    have hself := h3 q v at_ (by rw [hget, if_pos rfl])
    have e : sub (placeL (lay X 0 (nb M 2)) q at_ v.bytes) i 1 = sub X i 1 := by rw [place_sub hY (by omega) (by omega) (by omega) (by omega) (by omega), sY (by omega)]
    rw [one_of e]
    refine h.rest i (by omega) h2 fun s u f hs => ?_
    by_cases he : s = q
    · subst he
      rw [hfree (h.le hs)] at hs
      cases hs
    · exact h3 s u f (by rw [hget, if_neg he]; exact hs)
  · intro s u f hs
    rw [hget] at hs
    by_cases he : s = q
    · subst he
      rw [if_pos rfl] at hs
      injection hs with hs; injection hs with hs; injection hs with h1 h2
      subst h1
      exact hv
    · rw [if_neg he] at hs
      exact h.okv s u f hs
/-- the versions moved to the page's end, the first slot's last -/
def packL (L : SL) : SL := L.mapIdx fun s o => o.map fun x => (x.1, 512 - tot (L.take (s + 1)))
theorem packL_len (L : SL) : (packL L).length = L.length := by simp [packL]
theorem packL_get (L : SL) (s : Nat) : (packL L)[s]? = L[s]?.map fun o => o.map fun x => (x.1, 512 - tot (L.take (s + 1))) := by simp [packL]
theorem packL_none {L : SL} {s : Nat} (h : L[s]? = some none) : (packL L)[s]? = some none := by rw [packL_get, h]; rfl
theorem packL_some {L : SL} {s : Nat} {v : Ver} {f : Nat} (h : L[s]? = some (some (v, f))) : (packL L)[s]? = some (some (v, 512 - tot (L.take (s + 1)))) := by rw [packL_get, h]; rfl
theorem packL_inv {L : SL} {s : Nat} {v : Ver} {g : Nat} (h : (packL L)[s]? = some (some (v, g))) : (∃ f, L[s]? = some (some (v, f))) ∧ g = 512 - tot (L.take (s + 1)) := by
  rw [packL_get] at h
  cases hs : L[s]? with
  | none => rw [hs] at h; cases h
  | some o =>
    rw [hs] at h
    cases o with
    | none => cases h
    | some x =>
      obtain ⟨u, f⟩ := x
      injection h with h; injection h with h; injection h with h1 h2
      subst h1
      exact ⟨⟨f, rfl⟩, h2.symm⟩
theorem osz_packL (L : SL) : (packL L).map osz = L.map osz := by
  apply List.ext_getElem?
  intro s
  rw [List.getElem?_map, List.getElem?_map, packL_get]
  cases hs : L[s]? with
  | none => rfl
  | some o =>
    cases o with
    | none => rfl
    | some x => rfl
theorem tot_packL (L : SL) : tot (packL L) = tot L := by unfold tot; rw [osz_packL]
theorem tot_take_le (L : SL) (k : Nat) : tot (L.take k) ≤ tot L := by
  have e : tot (L.take k) + tot (L.drop k) = tot L := by
    unfold tot
    rw [← List.sum_append, ← List.map_append, List.take_append_drop]
  omega
theorem tot_take_mono (L : SL) {j k : Nat} (h : j ≤ k) : tot (L.take j) ≤ tot (L.take k) := by
  have := tot_take_le (L.take k) j
  rwa [List.take_take, Nat.min_eq_left h] at this
/-- behind k slots' turn -/
structure PkS (X Y : List UInt8) (L : SL) (k : Nat) : Prop where
  slot : ∀ (s : Nat) (o : Option (Ver × Nat)), s < k → (packL L)[s]? = some o → sub Y (4 + 4 * s) 4 = slotB o
  late : ∀ s, k ≤ s → s < L.length → sub Y (4 + 4 * s) 4 = sub X (4 + 4 * s) 4
  ver : ∀ (s : Nat) (v : Ver) (f : Nat), s < k → L[s]? = some (some (v, f)) → sub Y (512 - tot (L.take (s + 1))) v.sz = v.bytes
  rest : ∀ i, 4 + 4 * L.length ≤ i → i < 512 → (∀ (s : Nat) (v : Ver) (f : Nat), s < k → L[s]? = some (some (v, f)) → i < 512 - tot (L.take (s + 1)) ∨ 512 - tot (L.take (s + 1)) + v.sz ≤ i) → Y[i]? = some 0
theorem Has.pkS (h : Has X L st) (hs : st < 512) : ∀ k, k ≤ L.length → PkS X (pk X k) L k
  | 0, _ => by
    have hl0 := pk_len0 (h.pkOk hs)
    have htop := h.top
    have hbg := h.bgN
    rw [hbg] at hl0
    have sY : ∀ {c m : Nat}, 4 ≤ c → sub (pk X 0) c m = sub (lay X st (List.replicate (512 - st) 0)) c m := fun hc => by
      unfold pk
      rw [hbg]
      exact sub_other (by rw [nb_len, hl0]; omega) (by rw [nb_len]; omega)
    refine ⟨fun s o hs => absurd hs (by omega), fun s _ hs => ?_, fun s v f hs => absurd hs (by omega), fun i h1 h2 _ => ?_⟩
    · rw [sY (by omega), sub_other (by rw [List.length_replicate, h.len]; omega) (by omega)]
    · rw [one_of (sY (c := i) (m := 1) (by omega))]
      by_cases hi : i < st
      · rw [lay_other (by rw [List.length_replicate, h.len]; omega) (by omega)]
        exact h.rest i h1 h2 fun s v f hsv => by have := h.ver s v f hsv; omega
      · have := lay_get (X := X) (b := List.replicate (512 - st) 0) (a := st) (by rw [List.length_replicate, h.len]; omega) (j := i - st) (by rw [List.length_replicate]; omega)
        rw [show st + (i - st) = i by omega] at this
        rw [this, List.getElem?_replicate, if_pos (by omega)]
  | k + 1, hk => by
    have ih := h.pkS hs k (by omega)
    have hok := h.pkOk hs
    have hlen := pk_len hok k (by rw [h.slN]; omega)
    have htop := h.top
    have hsum := h.sum
    have htk := tot_take_le L (k + 1)
    obtain ⟨o, ho⟩ : ∃ o, L[k]? = some o := ⟨_, List.getElem?_eq_getElem (by omega)⟩
    have hsz := h.szS ho
    cases o with
    | none =>
      have e : pk X (k + 1) = pk X k := by
        show (if Mem.szS X k = 0 then _ else _) = _
        rw [if_pos (by rw [hsz]; rfl)]
      rw [e]
      refine ⟨fun s o hs hp => ?_, fun s h1 h2 => ih.late s (by omega) h2, fun s v f hs hv => ?_, fun i h1 h2 h3 => ih.rest i h1 h2 fun s v f hs hv => h3 s v f (by omega) hv⟩
      · by_cases he : s = k
        · subst he
          rw [packL_none ho] at hp
          injection hp with hp
          subst hp
          rw [ih.late s (Nat.le_refl _) (by omega)]
          exact h.slot s none ho
        · exact ih.slot s o (by omega) hp
      · by_cases he : s = k
        · subst he
          rw [ho] at hv
          cases hv
        · exact ih.ver s v f (by omega) hv
    | some x =>
      obtain ⟨v, f⟩ := x
      have hsz' : Mem.szS X k = v.sz := hsz
      obtain ⟨hvb, hv1, hv2⟩ := h.ver k v f ho
      have hvz : 30 ≤ v.sz := by unfold Ver.sz; omega
      have htk2 : tot (L.take (k + 1)) = tot (L.take k) + v.sz := tot_take_succ ho
      have e : pk X (k + 1) = placeL (pk X k) k (512 - tot (L.take (k + 1))) v.bytes := by
        show (if Mem.szS X k = 0 then _ else placeL (pk X k) k (512 - Mem.suN X (k + 1)) (sub X (Mem.frS X k) (Mem.szS X k))) = _
        rw [if_neg (by omega), h.suN (k + 1) hk, h.frS ho, hsz', hvb]
      have hvl := v.len
      rw [e]
      obtain ⟨T, hT⟩ : ∃ T, tot (L.take (k + 1)) = T := ⟨_, rfl⟩
      rw [hT] at htk htk2 ⊢
      have late : ∀ {s : Nat}, s < k → tot (L.take (s + 1)) ≤ tot (L.take k) := fun hs => tot_take_mono L (by omega)
      refine ⟨fun s o hs hp => ?_, fun s h1 h2 => ?_, fun s u g hs hv => ?_, fun i h1 h2 h3 => ?_⟩
      · by_cases he : s = k
        · subst he
          rw [packL_some ho, hT] at hp
          injection hp with hp
          subst hp
          rw [place_slot hlen (by omega) (by omega), hvl]
          rfl
        · rw [place_sub hlen (by omega) (by omega) (by omega) (by omega) (by omega)]
          exact ih.slot s o (by omega) hp
      · rw [place_sub hlen (by omega) (by omega) (by omega) (by omega) (by omega)]
        exact ih.late s (by omega) h2
      · by_cases he : s = k
        · subst he
          rw [ho] at hv
          injection hv with hv; injection hv with hv; injection hv with h1 h2
          subst h1
          have := place_ver (X := pk X s) (vl := v.bytes) (s := s) (at_ := 512 - T) hlen (by omega) (by omega)
          rw [hvl] at this
          rw [hT]
          exact this
        · have h1 := late (s := s) (by omega)
          have h2 : tot (L.take (s + 1)) = tot (L.take s) + u.sz := tot_take_succ hv
          rw [place_sub hlen (by omega) (by omega) (by omega) (by omega) (by omega)]
          exact ih.ver s u g (by omega) hv
      · have hself := h3 k v f (by omega) ho
        rw [hT] at hself
        have e1 : sub (placeL (pk X k) k (512 - T) v.bytes) i 1 = sub (pk X k) i 1 := place_sub hlen (by omega) (by omega) (by omega) (by omega) (by omega)
        rw [one_of e1]
        exact ih.rest i h1 h2 fun s u g hs hu => h3 s u g (by omega) hu
theorem Has.pack (h : Has X L st) (hs : st < 512) : Has (pk X (Mem.slN X)) (packL L) (512 - tot L) := by
  have hok := h.pkOk hs
  have htop := h.top
  have hsum := h.sum
  have hS := h.pkS hs L.length (Nat.le_refl _)
  have h1 := pk_len hok _ (Nat.le_refl _)
  have h2 := pk_head hok _ (Nat.le_refl _)
  have h3 := pk_bg hok _ (Nat.le_refl _)
  rw [h.slN] at h1 h2 h3 ⊢
  rw [h.suN _ (Nat.le_refl _), List.take_length] at h3
  have hb : ∀ {s : Nat} {v : Ver} {f : Nat}, L[s]? = some (some (v, f)) → tot (L.take (s + 1)) = tot (L.take s) + v.sz := fun hv => tot_take_succ hv
  refine ⟨h1, by rw [packL_len, h2]; exact h.sl, h3, by rw [packL_len]; omega, by omega, by rw [tot_packL]; omega, ?_, ?_, ?_, ?_, ?_⟩
  · intro s o ho
    refine hS.slot s o ?_ ho
    have := (List.getElem?_eq_some_iff.1 ho).1
    rwa [packL_len] at this
  · intro s v g hv
    obtain ⟨⟨f, hf⟩, rfl⟩ := packL_inv hv
    have := hb hf
    have := tot_take_le L (s + 1)
    exact ⟨hS.ver s v f (h.le hf) hf, by omega, by omega⟩
  · intro s s' v g v' g' hv hv' hne
    obtain ⟨⟨f, hf⟩, rfl⟩ := packL_inv hv
    obtain ⟨⟨f', hf'⟩, rfl⟩ := packL_inv hv'
    have e1 := hb hf
    have e2 := hb hf'
    have l1 := tot_take_le L (s + 1)
    have l2 := tot_take_le L (s' + 1)
    rcases Nat.lt_or_gt_of_ne hne with hl | hl
    · have := tot_take_mono L (show s + 1 ≤ s' from hl)
      omega
    · have := tot_take_mono L (show s' + 1 ≤ s from hl)
      omega
  · intro i h4 h5 h6
    rw [packL_len] at h4
    exact hS.rest i h4 h5 fun s v f hl hv => h6 s v _ (packL_some hv)
  · intro s v g hv
    obtain ⟨⟨f, hf⟩, _⟩ := packL_inv hv
    exact h.okv s v f hf
end
end Go.Proofs.Ythghnhcopmmmpaa.Mem
/- What Stamp and Free make of a page, as slots and versions. -/
namespace Go.Proofs.Ythghnhcopmmmpaa.Mem
open Go.RowKit Go.Proofs.Ythghnhcopmmmpaa.Nums
set_option linter.unusedVariables false
set_option linter.unusedSimpArgs false
set_option maxRecDepth 100000
theorem stamp_sub {X : List UInt8} {f U P1 S1 c m : Nat} (h : f + 30 ≤ X.length) (hc : c + m ≤ f + 16 ∨ f + 30 ≤ c) : sub (stampL X f U P1 S1) c m = sub X c m := by
  unfold stampL
  have e1 := lay_len (X := X) (b := nb U 8) (a := f + 16) (by rw [nb_len]; omega)
  have e2 := lay_len (X := lay X (f + 16) (nb U 8)) (b := nb P1 4) (a := f + 24) (by rw [nb_len, e1]; omega)
  rw [sub_other (by rw [nb_len, e2, e1]; omega) (by rw [nb_len]; omega), sub_other (by rw [nb_len, e1]; omega) (by rw [nb_len]; omega), sub_other (by rw [nb_len]; omega) (by rw [nb_len]; omega)]
theorem split_of {X b : List UInt8} {f m : Nat} (h : sub X f m = b) (hm : f + m ≤ X.length) : X = X.take f ++ (b ++ X.drop (f + m)) ∧ (X.take f).length = f := by
  refine ⟨?_, by rw [List.length_take]; omega⟩
  subst h
  unfold sub
  rw [← List.drop_drop, List.take_append_drop, List.take_append_drop]
/-- a version with another end and another one behind it -/
def Ver.stamped (v : Ver) (U P1 S1 : Nat) : Ver := ⟨v.r, v.a, U, P1, S1, v.d⟩
theorem stamp_ver {X : List UInt8} {f U P1 S1 : Nat} {v : Ver} (h : sub X f v.sz = v.bytes) (hm : f + v.sz ≤ X.length) : sub (stampL X f U P1 S1) f v.sz = (v.stamped U P1 S1).bytes := by
  obtain ⟨e, hp⟩ := split_of h hm
  have hl : (v.stamped U P1 S1).bytes.length = v.sz := Ver.len _
  obtain ⟨pre, hpre⟩ : ∃ pre, X.take f = pre := ⟨_, rfl⟩
  obtain ⟨post, hpost⟩ : ∃ post, X.drop (f + v.sz) = post := ⟨_, rfl⟩
  rw [hpre, hpost] at e
  rw [hpre] at hp
  have e2 := stampL_mid pre post v.d v.r v.a v.b v.p v.s U P1 S1 f hp
  rw [e]
  unfold Ver.bytes
  rw [e2]
  unfold sub
  rw [List.drop_append_of_le_length (by omega), List.drop_of_length_le (by omega), List.nil_append, List.take_append_of_le_length (by unfold Ver.bytes Ver.stamped at hl; rw [hl]; omega), List.take_of_length_le (by unfold Ver.bytes Ver.stamped at hl; rw [hl]; omega)]
  rfl
section
variable {X : List UInt8} {L : SL} {st : Nat}
theorem Has.stamp (h : Has X L st) {s : Nat} {v : Ver} {f U P1 S1 : Nat} (hs : L[s]? = some (some (v, f))) (hok : (v.stamped U P1 S1).ok) : Has (stampL X f U P1 S1) (L.set s (some (v.stamped U P1 S1, f))) st := by
  obtain ⟨hvb, hf1, hf2⟩ := h.ver s v f hs
  have hl := h.le hs
  have htop := h.top
  have hlen := h.len
  have hsz : (v.stamped U P1 S1).sz = v.sz := rfl
  have h30 : 30 ≤ v.sz := by unfold Ver.sz; omega
  have hget : ∀ j, (L.set s (some (v.stamped U P1 S1, f)))[j]? = if j = s then some (some (v.stamped U P1 S1, f)) else L[j]? := fun j => by
    rw [List.getElem?_set]
    by_cases hj : s = j
    · subst hj; rw [if_pos rfl, if_pos rfl, if_pos hl]
    · rw [if_neg hj, if_neg (Ne.symm hj)]
  refine ⟨by rw [stampL_len (by omega), hlen], ?_, ?_, by rw [List.length_set]; exact htop, h.all, ?_, ?_, ?_, ?_, ?_, ?_⟩
  · rw [stamp_sub (by omega) (by omega), List.length_set]; exact h.sl
  · rw [stamp_sub (by omega) (by omega)]; exact h.bg
  · have := tot_set L s (some (v.stamped U P1 S1, f)) _ hs
    have := h.sum
    simp only [osz, hsz] at *
    omega
  · intro j o ho
    rw [hget] at ho
    have hj : j < L.length := by
      split at ho
      · omega
      · exact h.le ho
    rw [stamp_sub (by omega) (by omega)]
    split at ho
    · rename_i he
      subst he
      injection ho with ho
      subst ho
      show sub X (4 + 4 * j) 4 = slotB (some (v, f))
      exact h.slot j _ hs
    · exact h.slot j o ho
  · intro j u g hu
    rw [hget] at hu
    split at hu
    · injection hu with hu; injection hu with hu; injection hu with h1 h2
      subst h1 h2
      rw [hsz]
      exact ⟨stamp_ver hvb (by omega), hf1, hf2⟩
    · rename_i he
      have hap := h.apart s j v f u g hs hu (Ne.symm he)
      obtain ⟨h1, h2, h3⟩ := h.ver j u g hu
      rw [stamp_sub (by omega) (by omega)]
      exact ⟨h1, h2, h3⟩
  · intro j j' u g u' g' hu hu' hne
    rw [hget] at hu hu'
    split at hu
    · rename_i he
      subst he
      rw [if_neg (Ne.symm hne)] at hu'
      injection hu with hu; injection hu with hu; injection hu with h1 h2
      subst h1 h2
      exact h.apart j j' v f u' g' hs hu' hne
    · split at hu'
      · rename_i he
        subst he
        injection hu' with hu'; injection hu' with hu'; injection hu' with h1 h2
        subst h1 h2
        exact h.apart j j' u g v f hu hs hne
      · exact h.apart j j' u g u' g' hu hu' hne
  · intro i h1 h2 h3
    rw [List.length_set] at h1
    have hself := h3 s _ f (by rw [hget, if_pos rfl])
    rw [hsz] at hself
    rw [one_of (stamp_sub (X := X) (f := f) (U := U) (P1 := P1) (S1 := S1) (c := i) (m := 1) (by omega) (by omega))]
    refine h.rest i h1 h2 fun j u g hu => ?_
    by_cases he : j = s
    · subst he
      rw [hs] at hu
      injection hu with hu; injection hu with hu; injection hu with h4 h5
      subst h4 h5
      exact hself
    · exact h3 j u g (by rw [hget, if_neg he]; exact hu)
  · intro j u g hu
    rw [hget] at hu
    split at hu
    · injection hu with hu; injection hu with hu; injection hu with h1 h2
      subst h1
      exact hok
    · exact h.okv j u g hu
/-- so many slots are left, when free ones at the end are no slots any more -/
structure IsTrim (M : SL) (k : Nat) : Prop where
  le : k ≤ M.length
  free : ∀ j, k ≤ j → j < M.length → M[j]? = some none
  last : 0 < k → ∃ x, M[k - 1]? = some (some x)
theorem IsTrim.eq {M : SL} {a b : Nat} (h : IsTrim M a) (k : IsTrim M b) : a = b := by
  rcases Nat.lt_trichotomy a b with hl | he | hl
  · obtain ⟨x, hx⟩ := k.last (by omega)
    rw [h.free (b - 1) (by omega) (by have := k.le; omega)] at hx
    cases hx
  · exact he
  · obtain ⟨x, hx⟩ := h.last (by omega)
    rw [k.free (a - 1) (by omega) (by have := h.le; omega)] at hx
    cases hx
theorem tot_take_le' (L : SL) (k : Nat) : tot (L.take k) ≤ tot L := tot_take_le L k
theorem free_sub {f z s c m : Nat} (hX : X.length = 512) (h1 : f + z ≤ 512) (h2 : 8 + 4 * s ≤ 512) (hc : c + m ≤ f ∨ f + z ≤ c) (hs : c + m ≤ 4 + 4 * s ∨ 8 + 4 * s ≤ c) : sub (freeL X s f z) c m = sub X c m := by
  unfold freeL
  have e1 := lay_len (X := X) (b := List.replicate z 0) (a := f) (by rw [List.length_replicate]; omega)
  rw [sub_other (by rw [List.length_replicate, e1]; omega) (by rw [List.length_replicate]; omega), sub_other (by rw [List.length_replicate]; omega) (by rw [List.length_replicate]; omega)]
theorem free_slot {f z s : Nat} (hX : X.length = 512) (h1 : f + z ≤ 512) (h2 : 8 + 4 * s ≤ 512) : sub (freeL X s f z) (4 + 4 * s) 4 = List.replicate 4 0 := by
  unfold freeL
  have e1 := lay_len (X := X) (b := List.replicate z 0) (a := f) (by rw [List.length_replicate]; omega)
  have := sub_same (X := lay X f (List.replicate z 0)) (b := List.replicate 4 0) (a := 4 + 4 * s) (by rw [List.length_replicate, e1]; omega)
  rwa [List.length_replicate] at this
theorem free_hole {f z s i : Nat} (hX : X.length = 512) (h1 : f + z ≤ 512) (h2 : 8 + 4 * s ≤ f) (hi : f ≤ i) (hi2 : i < f + z) : (freeL X s f z)[i]? = some 0 := by
  unfold freeL
  have e1 := lay_len (X := X) (b := List.replicate z 0) (a := f) (by rw [List.length_replicate]; omega)
  rw [lay_other (by rw [List.length_replicate, e1]; omega) (by rw [List.length_replicate]; omega)]
  have := lay_get (X := X) (b := List.replicate z 0) (a := f) (by rw [List.length_replicate]; omega) (j := i - f) (by rw [List.length_replicate]; omega)
  rw [show f + (i - f) = i by omega] at this
  rw [this, List.getElem?_replicate, if_pos (by omega)]
theorem set_get {L : SL} {s : Nat} (hl : s < L.length) (x : Option (Ver × Nat)) (j : Nat) : (L.set s x)[j]? = if j = s then some x else L[j]? := by
  rw [List.getElem?_set]
  by_cases hj : s = j
  · subst hj; rw [if_pos rfl, if_pos rfl, if_pos hl]
  · rw [if_neg hj, if_neg (Ne.symm hj)]
/-- the slots' bytes behind the two clears -/
theorem Has.freed (h : Has X L st) {s : Nat} {v : Ver} {f : Nat} (hs : L[s]? = some (some (v, f))) {j : Nat} {o : Option (Ver × Nat)} (ho : (L.set s none)[j]? = some o) : sub (freeL X s f v.sz) (4 + 4 * j) 4 = slotB o := by
  obtain ⟨hvb, hf1, hf2⟩ := h.ver s v f hs
  have hl := h.le hs
  have htop := h.top
  rw [set_get hl] at ho
  split at ho
  · rename_i he
    subst he
    injection ho with ho
    subst ho
    exact free_slot h.len hf2 (by omega)
  · have hj := h.le ho
    rw [free_sub h.len hf2 (by omega) (by omega) (by omega)]
    exact h.slot j o ho
theorem Has.freed_sz (h : Has X L st) {s : Nat} {v : Ver} {f : Nat} (hs : L[s]? = some (some (v, f))) {j : Nat} {o : Option (Ver × Nat)} (ho : (L.set s none)[j]? = some o) : Mem.szS (freeL X s f v.sz) j = osz o := by
  show leN (sub (freeL X s f v.sz) (6 + 4 * j) 2) = _
  have e := h.freed hs ho
  cases o with
  | none =>
    have e2 := sub_snd (X := freeL X s f v.sz) (a := 4 + 4 * j) (m := 2) (n := 2) (b := List.replicate 2 0) (c := List.replicate 2 0) (by rw [e]; rfl) rfl rfl
    rw [show 4 + 4 * j + 2 = 6 + 4 * j by omega] at e2
    rw [e2]
    rfl
  | some x =>
    obtain ⟨u, g⟩ := x
    have e2 := sub_snd (X := freeL X s f v.sz) (a := 4 + 4 * j) (m := 2) (n := 2) (b := nb g 2) (c := nb u.sz 2) e (nb_len _ _) (nb_len _ _)
    rw [show 4 + 4 * j + 2 = 6 + 4 * j by omega] at e2
    rw [set_get (h.le hs)] at ho
    split at ho
    · cases ho
    · have := (h.ver j u g ho).2
      rw [e2, leN_nb2 (by omega)]
      rfl
theorem Has.free (h : Has X L st) {s : Nat} {v : Ver} {f k : Nat} (hs : L[s]? = some (some (v, f))) (hk : IsTrim (L.set s none) k) : Has (lay (freeL X s f v.sz) 0 (nb k 2)) ((L.set s none).take k) st := by
  obtain ⟨hvb, hf1, hf2⟩ := h.ver s v f hs
  have hl := h.le hs
  have htop := h.top
  have hlen := h.len
  have hkl := hk.le
  rw [List.length_set] at hkl
  have hY : (freeL X s f v.sz).length = 512 := freeL_len hlen hf2 (by omega)
  have hT : ((L.set s none).take k).length = k := by rw [List.length_take, List.length_set]; omega
  have sY : ∀ {c m : Nat}, 2 ≤ c → sub (lay (freeL X s f v.sz) 0 (nb k 2)) c m = sub (freeL X s f v.sz) c m := fun hc => sub_other (by rw [nb_len, hY]; omega) (by rw [nb_len]; omega)
  have hg : ∀ {j : Nat} {o : Option (Ver × Nat)}, ((L.set s none).take k)[j]? = some o → (L.set s none)[j]? = some o ∧ j < k := fun {j o} ho => by
    rw [List.getElem?_take] at ho
    split at ho
    · exact ⟨ho, by assumption⟩
    · cases ho
  have hgv : ∀ {j : Nat} {u : Ver} {g : Nat}, ((L.set s none).take k)[j]? = some (some (u, g)) → L[j]? = some (some (u, g)) ∧ j ≠ s := fun {j u g} ho => by
    have := (hg ho).1
    rw [set_get hl] at this
    split at this
    · cases this
    · exact ⟨this, by assumption⟩
  refine ⟨by rw [lay_len (by rw [nb_len, hY]; omega), hY], ?_, ?_, by rw [hT]; omega, h.all, ?_, ?_, ?_, ?_, ?_, ?_⟩
  · rw [hT]
    have := sub_same (X := freeL X s f v.sz) (b := nb k 2) (a := 0) (by rw [nb_len, hY]; omega)
    rwa [nb_len] at this
  · rw [sY (by omega), free_sub hlen hf2 (by omega) (by omega) (by omega)]
    exact h.bg
  · have h1 := tot_set L s none _ hs
    have h2 := tot_take_le (L.set s none) k
    have h3 := h.sum
    simp only [osz] at h1
    omega
  · intro j o ho
    rw [sY (by omega)]
    exact h.freed hs (hg ho).1
  · intro j u g hu
    obtain ⟨h1, h2⟩ := hgv hu
    obtain ⟨h3, h4, h5⟩ := h.ver j u g h1
    have := h.apart s j v f u g hs h1 (Ne.symm h2)
    rw [sY (by omega), free_sub hlen hf2 (by omega) (by omega) (by omega)]
    exact ⟨h3, h4, h5⟩
  · intro j j' u g u' g' hu hu' hne
    exact h.apart j j' u g u' g' (hgv hu).1 (hgv hu').1 hne
  · intro i h1 h2 h3
    rw [hT] at h1
    rw [one_of (sY (c := i) (m := 1) (by omega))]
    by_cases ha : f ≤ i ∧ i < f + v.sz
    · exact free_hole hlen hf2 (by omega) ha.1 ha.2
    · by_cases hb : i < 4 + 4 * L.length
      · obtain ⟨o, ho⟩ : ∃ o, (L.set s none)[(i - 4) / 4]? = some o := ⟨_, List.getElem?_eq_getElem (by rw [List.length_set]; omega)⟩
        have hfr := hk.free ((i - 4) / 4) (by omega) (by rw [List.length_set]; omega)
        rw [ho] at hfr
        injection hfr with hfr
        subst hfr
        have e := get_of_sub (h.freed hs ho) (j := (i - 4) % 4) (by omega)
        rw [show 4 + 4 * ((i - 4) / 4) + (i - 4) % 4 = i by omega] at e
        rw [e]
        show (List.replicate 4 (0 : UInt8))[(i - 4) % 4]? = some 0
        rw [List.getElem?_replicate, if_pos (by omega)]
      · rw [one_of (free_sub (X := X) (f := f) (z := v.sz) (s := s) (c := i) (m := 1) hlen hf2 (by omega) (by omega) (by omega))]
        refine h.rest i (by omega) h2 fun j u g hu => ?_
        by_cases he : j = s
        · subst he
          rw [hs] at hu
          injection hu with hu; injection hu with hu; injection hu with h4 h5
          subst h4 h5
          omega
        · refine h3 j u g ?_
          have hs2 : (L.set s none)[j]? = some (some (u, g)) := by rw [set_get hl, if_neg he]; exact hu
          rw [List.getElem?_take, if_pos]
          · exact hs2
          · apply Classical.byContradiction
            intro hn
            rw [hk.free j (by omega) (by rw [List.length_set]; exact h.le hu)] at hs2
            cases hs2
  · intro j u g hu
    exact h.okv j u g (hgv hu).1
end
end Go.Proofs.Ythghnhcopmmmpaa.Mem
/- Page.Bytes; Insert where there is no room. -/
namespace Go.Proofs.Ythghnhcopmmmpaa.Mem
open Go.RowKit Go.Proofs.Ythghnhcopmmmpaa.Nums
set_option linter.unusedVariables false
set_option linter.unusedSimpArgs false
set_option maxRecDepth 100000
set_option maxHeartbeats 1000000
theorem bytes_nil (w : World) : Calls Try.prog 19 #[.pointer none] w fun e w' => e = .returned (.slice none 0 0) ∧ w = w' := by
  go_enter Try.func19, Try.ntmps19
  go_wp2_with fail
  go_ret
  exact ⟨rfl, rfl⟩
theorem bytes_pg (P : Nat) (X : List UInt8) (w : World) (hp : Pg w P X) :
    Calls Try.prog 19 #[.pointer (some ⟨P, 0, none⟩)] w fun e w' => ∃ v, e = .returned v ∧ OwnB w' w.heap.size v 512 (u8s X) ∧ Below w.heap.size w w' := by
  have hs := BB.sl hp.1 0 512 512 (by rw [hp.2]; omega) (by omega) (by unfold maxLen; omega)
  rw [List.drop_zero, List.take_of_length_le (by rw [hp.2]; exact Nat.le_refl _)] at hs
  have C := Lib.hid (clone_any X ⟨P, 0, none⟩ 512 512 w hs (by omega))
  clear hs hp
  go_enter Try.func19, Try.ntmps19
  go_wp2_with fail
  refine C.out.mono ?_
  rintro e w1 ⟨v, rfl, hown, hb⟩
  have HO := Lib.hid hown
  have HB := Lib.hid hb
  clear hown hb
  go_wp2_with fail
  go_ret
  exact ⟨_, rfl, HO.out, HB.out⟩
theorem insert_full (P q r a b n c : Nat) (p s : Int) (A : Option Addr) (X : List UInt8) (w : World) (hp : Pg w P X) (hF : Fine X) (hq : IsNext X q) (hok : tuOk r a b p s n = true) (hc : n ≤ c) (hcm : c ≤ maxLen) (hroom : roomN X q < (n : Int)) :
    Calls Try.prog 34 #[.pointer (some ⟨P, 0, none⟩), .agg #[.int .u64 r, .int .u64 a, .int .u64 b, .int .i64 p, .int .i64 s, .slice A n c]] w fun e w' => e = .returned (.tuple #[.int .i64 0, .int .i64 12]) ∧ Below w.heap.size w w' := by
  have HP := Lib.hid hp
  have HF := Lib.hid hF
  have HQ := Lib.hid hq
  have hb4 := at_new w #[.int .u64 r, .int .u64 a, .int .u64 b, .int .i64 p, .int .i64 s, .slice A n c] 33
  have H5 : Hid ((w.alloc (.cells #[.int .u64 r, .int .u64 a, .int .u64 b, .int .i64 p, .int .i64 s, .slice A n c] 33)).cell? ⟨w.heap.size, 5, none⟩ = some (.slice A n c)) := Lib.hid (by have h := hb4.2 5 (.slice A n c) rfl; rwa [add_flat] at h)
  have hsx := size_alloc w (.cells #[.int .u64 r, .int .u64 a, .int .u64 b, .int .i64 p, .int .i64 s, .slice A n c] 33)
  have CR := Lib.hid (right_any r a b p s A n c (w.alloc (.cells #[.int .u64 r, .int .u64 a, .int .u64 b, .int .i64 p, .int .i64 s, .slice A n c] 33)))
  rw [hok] at CR
  clear hb4 hp hF hq hok
  go_enter Try.func34, Try.ntmps34
  go_wp2_with fail
  refine CR.out.mono ?_
  rintro e w2 ⟨rfl, hb2⟩
  have HB2 := Lib.hid (bel_trans (bel_alloc w (.cells #[.int .u64 r, .int .u64 a, .int .u64 b, .int .i64 p, .int .i64 s, .slice A n c] 33)) hb2)
  have HP2 : Hid (Pg w2 P X) := Lib.hid ⟨Blk.below HP.out.1 HB2.out (Blk.lt HP.out.1), HP.out.2⟩
  have c5 := (hb2.cell (p := ⟨w.heap.size, 5, none⟩) (by show w.heap.size < _; omega)).trans H5.out
  clear hb2
  go_wp2_with fail
  go_quiet ((go_at_call 21; exact quiet_m (room_q P q X _ (HP2.out.drewN _) HF.out HQ.out)))
  go_wp2_with fail
  go_ret2
  exact ⟨rfl, HB2.out.os, HB2.out.tape, HB2.out.output, HB2.out.size, HB2.out.block⟩
end Go.Proofs.Ythghnhcopmmmpaa.Mem
/- Page.Get where nothing is. -/
namespace Go.Proofs.Ythghnhcopmmmpaa.Mem
open Go.RowKit Go.Proofs.Ythghnhcopmmmpaa.Nums
set_option linter.unusedVariables false
set_option linter.unusedSimpArgs false
set_option maxRecDepth 100000
set_option maxHeartbeats 1000000
attribute [local go_sem] nil_nil some_nil
/-- Get, told by what 'at' tells: nothing is there -/
theorem get_none (A : Option Addr) (i : Int) (w : World) (h : ∀ w0, Below w.heap.size w w0 → Calls Try.prog 71 #[.pointer A, .int .i64 i] w0 fun e w' => e = .returned (.slice none 0 0) ∧ ∃ m, w' = w0.drewN m) :
    Calls Try.prog 26 #[.pointer A, .int .i64 i] w fun e w' => e = .returned (.tuple #[.agg #[.int .u64 0, .int .u64 0, .int .u64 0, .int .i64 0, .int .i64 0, .slice none 0 0], .bool false]) ∧ Below w.heap.size w w' := by
  have CA := Lib.hid (h (w.alloc (.cells #[.int .u64 0, .int .u64 0, .int .u64 0, .int .i64 0, .int .i64 0, .slice none 0 0] 33)) (bel_alloc _ _))
  have HT0 : Hid (∀ m, Blk ((w.alloc (.cells #[.int .u64 0, .int .u64 0, .int .u64 0, .int .i64 0, .int .i64 0, .slice none 0 0] 33)).drewN m) w.heap.size 33 #[.int .u64 0, .int .u64 0, .int .u64 0, .int .i64 0, .int .i64 0, .slice none 0 0]) := Lib.hid fun m => Blk.new w _ _
  have HBE0 : Hid (Below w.heap.size w (w.alloc (.cells #[.int .u64 0, .int .u64 0, .int .u64 0, .int .i64 0, .int .i64 0, .slice none 0 0] 33))) := Lib.hid (bel_alloc _ _)
  clear h
  go_enter Try.func26, Try.ntmps26
  go_wp2_with fail
  refine CA.out.mono ?_
  rintro e w2 ⟨rfl, m, rfl⟩
  obtain ⟨wz, hwz⟩ : ∃ wz, (w.alloc (.cells #[.int .u64 0, .int .u64 0, .int .u64 0, .int .i64 0, .int .i64 0, .slice none 0 0] 33)).drewN m = wz := ⟨_, rfl⟩
  have HT1 := Lib.hid (HT0.out m)
  have HBZ : Hid (Below w.heap.size w ((w.alloc (.cells #[.int .u64 0, .int .u64 0, .int .u64 0, .int .i64 0, .int .i64 0, .slice none 0 0] 33)).drewN m)) := Lib.hid ⟨HBE0.out.os, HBE0.out.tape, HBE0.out.output, HBE0.out.size, HBE0.out.block⟩
  rw [hwz] at HT1 HBZ ⊢
  have q0 := HT1.out.cell 0
  have q1 := HT1.out.cell 1
  have q2 := HT1.out.cell 2
  have q3 := HT1.out.cell 3
  have q4 := HT1.out.cell 4
  have q5 := HT1.out.cell 5
  have p0 := HT1.out.frozen 0
  have p1 := HT1.out.frozen 1
  have p2 := HT1.out.frozen 2
  have p3 := HT1.out.frozen 3
  have p4 := HT1.out.frozen 4
  have p5 := HT1.out.frozen 5
  clear hwz CA HT0
  go_wp2_with fail
  have HF := Lib.hid (Blk.put6 HT1.out (.int .u64 0) (.int .u64 0) (.int .u64 0) (.int .i64 0) (.int .i64 0) (.slice none 0 0))
  exact bodyPost_ret (get_ret HF.out rfl rfl) rfl ⟨rfl, Below.put6 HBZ.out (Nat.le_refl _) _ _ _ _ _ _⟩
theorem get_nil (i : Int) (w : World) : Calls Try.prog 26 #[.pointer none, .int .i64 i] w fun e w' => e = .returned (.tuple #[.agg #[.int .u64 0, .int .u64 0, .int .u64 0, .int .i64 0, .int .i64 0, .slice none 0 0], .bool false]) ∧ Below w.heap.size w w' := by
  refine get_none none i w fun w0 _ => ?_
  by_cases hi : i < 0
  · exact (at_nilneg i w0 hi).mono fun e w' ⟨h1, h2⟩ => ⟨h1, 0, h2.symm⟩
  · exact (at_nil i w0 hi).mono fun e w' ⟨h1, h2⟩ => ⟨h1, 0, h2.symm⟩
/-- .. of a page: beyond its slots, or of a free one -/
theorem get_off (P : Nat) (X : List UInt8) (i : Int) (w : World) (hp : Pg w P X) (hF : Fine X) (h : i < 0 ∨ (slN X : Int) ≤ i ∨ ∃ s : Nat, i = s ∧ s < slN X ∧ szS X s = 0) :
    Calls Try.prog 26 #[.pointer (some ⟨P, 0, none⟩), .int .i64 i] w fun e w' => e = .returned (.tuple #[.agg #[.int .u64 0, .int .u64 0, .int .u64 0, .int .i64 0, .int .i64 0, .slice none 0 0], .bool false]) ∧ Below w.heap.size w w' := by
  refine get_none (some ⟨P, 0, none⟩) i w fun w0 hb => ?_
  have hp0 : Pg w0 P X := ⟨Blk.below hp.1 hb (Blk.lt hp.1), hp.2⟩
  by_cases hi : i < 0
  · exact (at_neg P i w0 hi).mono fun e w' ⟨h1, h2⟩ => ⟨h1, 0, h2.symm⟩
  rcases h with h | h | ⟨s, rfl, hs, hz⟩
  · exact absurd h hi
  · exact (at_over P X i w0 hp0 hi h).mono fun e w' ⟨h1, h2⟩ => ⟨h1, 0, h2.symm⟩
  · have h := at_pg P s X w0 hp0 hF hs
    rw [atV_free hz] at h
    exact h
end Go.Proofs.Ythghnhcopmmmpaa.Mem
/- The page's calls, told of slots and versions. -/
namespace Go.Proofs.Ythghnhcopmmmpaa.Mem
open Go.RowKit Go.Proofs.Ythghnhcopmmmpaa.Nums
set_option linter.unusedVariables false
set_option linter.unusedSimpArgs false
set_option maxRecDepth 100000
set_option maxHeartbeats 1000000
attribute [local go_sem] nil_nil some_nil
/-- block P is the page of these slots -/
def Hp (w : World) (P : Nat) (L : SL) (st : Nat) : Prop := ∃ X, Pg w P X ∧ Has X L st
section
variable {w w' : World} {P : Nat} {L : SL} {st : Nat}
theorem Hp.lt (h : Hp w P L st) : P < w.heap.size := by obtain ⟨X, hp, _⟩ := h; exact Blk.lt hp.1
theorem Hp.keep (h : Hp w P L st) (hk : w'.heap[P]? = w.heap[P]?) : Hp w' P L st := by obtain ⟨X, hp, hx⟩ := h; exact ⟨X, ⟨hk.trans hp.1, hp.2⟩, hx⟩
theorem Hp.below {B : Nat} (h : Hp w P L st) (hb : Below B w w') (hP : P < B) : Hp w' P L st := h.keep (hb.block P hP)
theorem Hp.drewN (h : Hp w P L st) (n : Nat) : Hp (w.drewN n) P L st := h
theorem Hp.only {g : Nat} (h : Hp w P L st) (ho : Only g w w') (hne : P ≠ g) : Hp w' P L st := h.keep (ho.block P h.lt hne)
end
/-- the tuple of a version, its Data's slice v -/
def tupV (v : Ver) (u : Value) : Value := .agg #[.int .u64 v.r, .int .u64 v.a, .int .u64 v.b, .int .i64 ((v.p : Int) - 1), .int .i64 ((v.s : Int) - 1), u]
def zeroT : Value := .agg #[.int .u64 0, .int .u64 0, .int .u64 0, .int .i64 0, .int .i64 0, .slice none 0 0]
theorem Ver.ok.tuOk {v : Ver} (h : v.ok) : tuOk v.r v.a v.b ((v.p : Int) - 1) ((v.s : Int) - 1) v.d.length = true := by
  have h1 := h.r
  have h2 := h.a
  have h3 := h.b
  have h4 := h.p
  have h5 := h.s
  have h6 := h.ps
  have h7 := h.d
  unfold Mem.tuOk nxOk
  simp only [Bool.and_eq_true, Bool.or_eq_true, decide_eq_true_eq, beq_iff_eq]
  refine ⟨⟨⟨⟨h1, h2⟩, h3⟩, ?_⟩, h7⟩
  by_cases h0 : v.p = 0
  · left; have := h6.1 h0; omega
  · right; have : v.s ≠ 0 := fun e => h0 (h6.2 e); omega
theorem new_has (w : World) : Calls Try.prog 15 #[] w fun e w' => e = .returned (.pointer (some ⟨w.heap.size, 0, none⟩)) ∧ Hp w' w.heap.size [] 512 ∧ Below w.heap.size w w' := by
  refine (new_pg w).mono ?_
  rintro e w' ⟨rfl, hp, hb⟩
  refine ⟨rfl, ⟨X0, hp, ?_⟩, hb⟩
  refine ⟨x0_len, by kernel_rfl, by kernel_rfl, by simp, by omega, by simp [tot], by simp, by simp, by simp, fun i h1 h2 _ => ?_, by simp⟩
  unfold X0
  simp at h1
  rw [lay_other (by rw [nb_len, List.length_replicate]; omega) (by rw [nb_len]; omega), List.getElem?_replicate, if_pos h2]
theorem slots_has (P : Nat) (L : SL) (st : Nat) (w : World) (h : Hp w P L st) : Calls Try.prog 25 #[.pointer (some ⟨P, 0, none⟩)] w fun e w' => e = .returned (.int .i64 L.length) ∧ w = w' := by
  obtain ⟨X, hp, hx⟩ := h
  have := slots_pg P X w hp
  have e : get2 X 0 = L.length := hx.slN
  rwa [e] at this
theorem room_has (P : Nat) (L : SL) (st : Nat) (w : World) (h : Hp w P L st) : Calls Try.prog 21 #[.pointer (some ⟨P, 0, none⟩)] w fun e w' => e = .returned (.int .i64 (roomL L)) ∧ ∃ m, w' = w.drewN m := by
  obtain ⟨X, hp, hx⟩ := h
  have := room_q P _ X w hp hx.fine hx.next
  rwa [hx.room] at this
/-- how many slots aren't free -/
def usedL (L : SL) : Nat := (L.filter (·.isSome)).length
theorem usedL_snoc (L : SL) (o : Option (Ver × Nat)) : usedL (L ++ [o]) = usedL L + (if o.isSome then 1 else 0) := by
  unfold usedL
  rw [List.filter_append, List.length_append]
  cases o <;> rfl
theorem Has.us {X : List UInt8} {L : SL} {st : Nat} (h : Has X L st) : ∀ k, k ≤ L.length → usN X k = usedL (L.take k)
  | 0, _ => by simp [usN, usedL]
  | k + 1, hk => by
    obtain ⟨o, ho⟩ : ∃ o, L[k]? = some o := ⟨_, List.getElem?_eq_getElem (by omega)⟩
    have hz := h.szS ho
    have e := h.us k (by omega)
    rw [take_succ_of ho, usedL_snoc]
    unfold usN
    rw [hz, e]
    cases o with
    | none => simp [osz]
    | some x => simp [osz, Ver.sz]
theorem used_has (P : Nat) (L : SL) (st : Nat) (w : World) (h : Hp w P L st) : Calls Try.prog 23 #[.pointer (some ⟨P, 0, none⟩)] w fun e w' => e = .returned (.int .i64 (usedL L)) ∧ ∃ m, w' = w.drewN m := by
  obtain ⟨X, hp, hx⟩ := h
  have := used_pg P X w hp hx.fine
  rwa [hx.slN, hx.us _ (Nat.le_refl _), List.take_length] at this
/-- what lies in a slot -/
def atL (L : SL) (i : Int) : Option (Ver × Nat) := if i < 0 then none else (L[i.toNat]?).join
theorem atL_some {L : SL} {i : Int} {x : Ver × Nat} (h : atL L i = some x) : ∃ s : Nat, i = s ∧ L[s]? = some (some x) := by
  unfold atL at h
  split at h
  · cases h
  · refine ⟨i.toNat, by omega, ?_⟩
    cases hs : L[i.toNat]? with
    | none => rw [hs] at h; cases h
    | some o => rw [hs] at h; simp at h; rw [h]
theorem atL_none {L : SL} {i : Int} (h : atL L i = none) : i < 0 ∨ (L.length : Int) ≤ i ∨ ∃ s : Nat, i = s ∧ L[s]? = some none := by
  unfold atL at h
  split at h
  · left; assumption
  · right
    cases hs : L[i.toNat]? with
    | none =>
      left
      have := List.getElem?_eq_none_iff.1 hs
      omega
    | some o =>
      right
      rw [hs] at h
      simp at h
      exact ⟨i.toNat, by omega, by rw [hs, h]⟩
theorem at_none (P : Nat) (L : SL) (st : Nat) (i : Int) (w : World) (h : Hp w P L st) (hn : atL L i = none) :
    Calls Try.prog 71 #[.pointer (some ⟨P, 0, none⟩), .int .i64 i] w fun e w' => e = .returned (.slice none 0 0) ∧ ∃ m, w' = w.drewN m := by
  obtain ⟨X, hp, hx⟩ := h
  by_cases hi : i < 0
  · exact (at_neg P i w hi).mono fun e w' ⟨h1, h2⟩ => ⟨h1, 0, h2.symm⟩
  rcases atL_none hn with h | h | ⟨s, rfl, hs⟩
  · exact absurd h hi
  · exact (at_over P X i w hp hi (by have := hx.slN; unfold slN at this; omega)).mono fun e w' ⟨h1, h2⟩ => ⟨h1, 0, h2.symm⟩
  · have h := at_pg P s X w hp hx.fine (by rw [hx.slN]; exact hx.le hs)
    rw [atV_free (by rw [hx.szS hs]; rfl)] at h
    exact h
theorem get_has_none (P : Nat) (L : SL) (st : Nat) (i : Int) (w : World) (h : Hp w P L st) (hn : atL L i = none) :
    Calls Try.prog 26 #[.pointer (some ⟨P, 0, none⟩), .int .i64 i] w fun e w' => e = .returned (.tuple #[zeroT, .bool false]) ∧ Below w.heap.size w w' :=
  get_none (some ⟨P, 0, none⟩) i w fun w0 hb => at_none P L st i w0 (h.below hb h.lt) hn
theorem get_has_some (P : Nat) (L : SL) (st : Nat) (i : Int) (v : Ver) (f : Nat) (w : World) (h : Hp w P L st) (hn : atL L i = some (v, f)) :
    Calls Try.prog 26 #[.pointer (some ⟨P, 0, none⟩), .int .i64 i] w fun e w' => ∃ u, e = .returned (.tuple #[tupV v u, .bool true]) ∧ OwnB w' w.heap.size u v.d.length (u8s v.d) ∧ Below w.heap.size w w' := by
  obtain ⟨X, hp, hx⟩ := h
  obtain ⟨s, rfl, hs⟩ := atL_some hn
  obtain ⟨hvb, hf1, hf2⟩ := hx.ver s v f hs
  have hok := hx.okv s v f hs
  obtain ⟨e0, hpre⟩ := split_of hvb (by rw [hx.len]; omega)
  have hy := getN_ver (X.take f) (X.drop (f + v.sz)) v.d v.r v.a v.b v.p v.s f hpre (by have := hok.r; omega) (by have := hok.a; omega) (by have := hok.b; omega) hok.p hok.s
  have e1 : X.take f ++ (verL v.r v.a v.b v.p v.s v.d ++ X.drop (f + v.sz)) = X := e0.symm
  rw [e1] at hy
  obtain ⟨y0, y1, y2, y3, y4, y5⟩ := hy
  refine (get_some P s f v.sz X w hp hx.fine (by rw [hx.slN]; exact hx.le hs) (hx.frS hs) (hx.szS hs) (by unfold Ver.sz; omega)).mono ?_
  rintro e w' ⟨u, rfl, ho, hb⟩
  refine ⟨u, ?_, ?_, hb⟩
  · unfold tuV tupV
    rw [y0, y1, y2, y3, y4]
  · have e2 : v.sz - 30 = v.d.length := by unfold Ver.sz; omega
    rw [e2, y5] at ho
    exact ho
end Go.Proofs.Ythghnhcopmmmpaa.Mem
/- Insert, Stamp and Free, told of slots and versions. -/
namespace Go.Proofs.Ythghnhcopmmmpaa.Mem
open Go.RowKit Go.Proofs.Ythghnhcopmmmpaa.Nums
set_option linter.unusedVariables false
set_option linter.unusedSimpArgs false
set_option maxRecDepth 100000
set_option maxHeartbeats 1000000
attribute [local go_sem] nil_nil some_nil
/-- the slots and where the data begin behind one more -/
def insS (L : SL) (st : Nat) (v : Ver) : SL × Nat :=
  if st < v.sz + (4 + 4 * max L.length (nextL L + 1)) then (putL (packL L) (nextL L) (some (v, 512 - tot L - v.sz)), 512 - tot L - v.sz)
  else (putL L (nextL L) (some (v, st - v.sz)), st - v.sz)
theorem nextL_eq {L : SL} {q : Nat} (h1 : ∀ j, j < q → ∃ x, L[j]? = some (some x)) (h2 : q ≤ L.length) (h3 : q < L.length → L[q]? = some none) : nextL L = q := by
  rcases Nat.lt_trichotomy (nextL L) q with hl | he | hl
  · obtain ⟨x, hx⟩ := h1 _ hl
    rw [nextL_free (by omega)] at hx
    cases hx
  · exact he
  · obtain ⟨x, hx⟩ := nextL_full hl
    rw [h3 (by have := nextL_le L; omega)] at hx
    cases hx
theorem nextL_packL (L : SL) : nextL (packL L) = nextL L := by
  refine nextL_eq (fun j hj => ?_) (by rw [packL_len]; exact nextL_le L) (fun h => ?_)
  · obtain ⟨⟨v, f⟩, hx⟩ := nextL_full hj
    exact ⟨_, packL_some hx⟩
  · rw [packL_len] at h
    exact packL_none (nextL_free h)
theorem roomL_le {L : SL} {n : Nat} (h : (n : Int) ≤ roomL L) : 4 * max L.length (nextL L + 1) + tot L + n ≤ 478 := by unfold roomL at h; omega
theorem insert_has (P n c : Nat) (A : Option Addr) (v : Ver) (L : SL) (st : Nat) (w : World) (h : Hp w P L st) (hv : v.ok) (hn : v.d.length = n) (hs : Sl w w.heap.size 1 A n c (u8s v.d)) (hroom : (n : Int) ≤ roomL L) :
    Calls Try.prog 34 #[.pointer (some ⟨P, 0, none⟩), tupV v (.slice A n c)] w fun e w' => e = .returned (.tuple #[.int .i64 (nextL L), .int .i64 0]) ∧ Hp w' P (insS L st v).1 (insS L st v).2 ∧ Only P w w' := by
  obtain ⟨X, hp, hx⟩ := h
  have hok := hv.tuOk
  rw [hn] at hok
  have h1 := hv.r
  have h2 := hv.a
  have h3 := hv.b
  have h4 := hv.p
  have h5 := hv.s
  have h7 := hv.d
  have hrm := roomL_le hroom
  have hsz : v.sz = 30 + n := by unfold Ver.sz; omega
  have htop := hx.top
  have hall := hx.all
  have hsum := hx.sum
  by_cases hc : st < v.sz + (4 + 4 * max L.length (nextL L + 1))
  · have hpk := hx.pack (by omega)
    have hi := hpk.insert (v := v) (at_ := 512 - tot L - v.sz) (M := max L.length (nextL L + 1)) hv (by omega) (by rw [packL_len, nextL_packL]) (by omega)
    rw [nextL_packL] at hi
    refine (insert_pack P (nextL L) v.r v.a v.b v.p v.s n c (512 - tot L - v.sz) st _ _ A v.d X w hp (hx.pkOk (by omega)) hx.next hn hs hok (by omega) (by omega) (by omega) (by omega) (by omega) h4 h5 (by omega) (by rw [hx.room]; exact hroom) hx.bgN (by rw [hx.slN]; omega) (by rw [hx.su]; omega)).mono ?_
    rintro e w' ⟨rfl, hp', ho⟩
    rw [hx.slN] at hp' hi
    refine ⟨rfl, ⟨_, hp', ?_⟩, ho⟩
    unfold insS
    rw [if_pos hc]
    exact hi
  · have hi := hx.insert (v := v) (at_ := st - v.sz) (M := max L.length (nextL L + 1)) hv (by omega) rfl (by omega)
    refine (insert_ok P (nextL L) v.r v.a v.b v.p v.s n c (st - v.sz) _ _ A v.d X w hp hx.fine hx.next hn hs hok (by omega) (by omega) (by omega) (by omega) (by omega) h4 h5 (by omega) (by rw [hx.room]; exact hroom) (by rw [hx.bgN]; omega) (by rw [hx.slN]; omega) (by omega)).mono ?_
    rintro e w' ⟨rfl, hp', ho⟩
    rw [hx.slN] at hp'
    refine ⟨rfl, ⟨_, hp', ?_⟩, ho⟩
    unfold insS
    rw [if_neg hc]
    exact hi
theorem insert_has_full (P n c : Nat) (A : Option Addr) (v : Ver) (L : SL) (st : Nat) (w : World) (h : Hp w P L st) (hv : v.ok) (hn : v.d.length = n) (hs : Sl w w.heap.size 1 A n c (u8s v.d)) (hroom : roomL L < (n : Int)) :
    Calls Try.prog 34 #[.pointer (some ⟨P, 0, none⟩), tupV v (.slice A n c)] w fun e w' => e = .returned (.tuple #[.int .i64 0, .int .i64 12]) ∧ Below w.heap.size w w' := by
  obtain ⟨X, hp, hx⟩ := h
  have hok := hv.tuOk
  rw [hn] at hok
  exact insert_full P (nextL L) v.r v.a v.b n c _ _ A X w hp hx.fine hx.next hok hs.le hs.cap (by rw [hx.room]; exact hroom)
/-- Stamp where nothing is -/
theorem stamp_none (P : Nat) (L : SL) (st : Nat) (i : Int) (U : Nat) (p s : Int) (w : World) (h : Hp w P L st) (hn : atL L i = none) (hU : U ≤ 1099511627776) (hx : nxOk p s = true) :
    Calls Try.prog 38 #[.pointer (some ⟨P, 0, none⟩), .int .i64 i, .int .u64 U, .agg #[.int .i64 p, .int .i64 s]] w fun e w' => e = .returned (.int .i64 15) ∧ Below w.heap.size w w' := by
  have CX := Lib.hid (rightNext_any p s (w.alloc (.cells #[.int .i64 p, .int .i64 s] 30)))
  rw [hx] at CX
  have CA : Hid (∀ w0, Below w.heap.size w w0 → Calls Try.prog 71 #[.pointer (some ⟨P, 0, none⟩), .int .i64 i] w0 fun e w' => e = .returned (.slice none 0 0) ∧ ∃ m, w' = w0.drewN m) := Lib.hid fun w0 hb => at_none P L st i w0 (h.below hb h.lt) hn
  clear h hn hx
  go_enter Try.func38, Try.ntmps38
  go_wp2_with fail
  refine (rightNumber_yes U _ hU).mono ?_
  rintro e w1 ⟨rfl, rfl⟩
  go_wp2_with fail
  refine CX.out.mono ?_
  rintro e w2 ⟨rfl, hb2⟩
  have HB2 := Lib.hid (bel_trans (bel_alloc w (.cells #[.int .i64 p, .int .i64 s] 30)) hb2)
  clear hb2
  go_wp2_with fail
  refine (CA.out _ HB2.out).mono ?_
  rintro e w3 ⟨rfl, m, rfl⟩
  go_wp2_with fail
  go_ret
  exact ⟨rfl, HB2.out.os, HB2.out.tape, HB2.out.output, HB2.out.size, HB2.out.block⟩
theorem stamp_has (P : Nat) (L : SL) (st : Nat) (i : Int) (v : Ver) (f U P1 S1 : Nat) (p s : Int) (w : World) (h : Hp w P L st) (hn : atL L i = some (v, f)) (hU : U ≤ 1099511627776) (hx : nxOk p s = true) (hp : p + 1 = P1) (hs : s + 1 = S1) :
    Calls Try.prog 38 #[.pointer (some ⟨P, 0, none⟩), .int .i64 i, .int .u64 U, .agg #[.int .i64 p, .int .i64 s]] w fun e w' => e = .returned (.int .i64 0) ∧ Hp w' P (L.set i.toNat (some (v.stamped U P1 S1, f))) st ∧ Only P w w' := by
  obtain ⟨X, hpg, hX⟩ := h
  obtain ⟨j, rfl, hj⟩ := atL_some hn
  obtain ⟨P2, S2, e1, e2, h1, h2⟩ := nx_nat hx
  obtain rfl : P1 = P2 := by omega
  obtain rfl : S1 = S2 := by omega
  have hok := hX.okv j v f hj
  refine (stamp_ok P j f v.sz U P1 S1 p s X w hpg hX.fine (by rw [hX.slN]; exact hX.le hj) (hX.frS hj) (hX.szS hj) (by unfold Ver.sz; omega) hU hx hp hs h1 h2).mono ?_
  rintro e w' ⟨rfl, hpg', ho⟩
  refine ⟨rfl, ⟨_, hpg', ?_⟩, ho⟩
  refine hX.stamp hj ⟨hok.r, hok.a, hU, h1, h2, ?_, hok.d⟩
  show P1 = 0 ↔ S1 = 0
  unfold nxOk at hx
  simp only [Bool.and_eq_true, Bool.or_eq_true, decide_eq_true_eq, beq_iff_eq] at hx
  omega
/-- Free where nothing is -/
theorem free_of (A : Option Addr) (i : Int) (w : World) (h : Calls Try.prog 71 #[.pointer A, .int .i64 i] w fun e w' => e = .returned (.slice none 0 0) ∧ ∃ m, w' = w.drewN m) :
    Calls Try.prog 35 #[.pointer A, .int .i64 i] w fun e w' => e = .returned (.int .i64 15) ∧ ∃ m, w' = w.drewN m := by
  have H := Lib.hid h
  clear h
  go_enter Try.func35, Try.ntmps35
  go_wp2_with fail
  refine H.out.mono ?_
  rintro e w2 ⟨rfl, m, rfl⟩
  go_wp2_with fail
  go_ret
  exact ⟨rfl, m, rfl⟩
theorem free_nil (i : Int) (w : World) : Calls Try.prog 35 #[.pointer none, .int .i64 i] w fun e w' => e = .returned (.int .i64 15) ∧ ∃ m, w' = w.drewN m := by
  refine free_of none i w ?_
  by_cases hi : i < 0
  · exact (at_nilneg i w hi).mono fun e w' ⟨h1, h2⟩ => ⟨h1, 0, h2.symm⟩
  · exact (at_nil i w hi).mono fun e w' ⟨h1, h2⟩ => ⟨h1, 0, h2.symm⟩
theorem free_none (P : Nat) (L : SL) (st : Nat) (i : Int) (w : World) (h : Hp w P L st) (hn : atL L i = none) :
    Calls Try.prog 35 #[.pointer (some ⟨P, 0, none⟩), .int .i64 i] w fun e w' => e = .returned (.int .i64 15) ∧ ∃ m, w' = w.drewN m := free_of _ i w (at_none P L st i w h hn)
theorem free_has (P : Nat) (L : SL) (st : Nat) (i : Int) (v : Ver) (f : Nat) (w : World) (h : Hp w P L st) (hn : atL L i = some (v, f)) :
    Calls Try.prog 35 #[.pointer (some ⟨P, 0, none⟩), .int .i64 i] w fun e w' => e = .returned (.int .i64 0) ∧ ∃ k, IsTrim (L.set i.toNat none) k ∧ Hp w' P ((L.set i.toNat none).take k) st ∧ Only P w w' := by
  obtain ⟨X, hpg, hX⟩ := h
  obtain ⟨j, rfl, hj⟩ := atL_some hn
  obtain ⟨hvb, hf1, hf2⟩ := hX.ver j v f hj
  have htop := hX.top
  refine (free_pg P j f v.sz X w hpg hX.fine (by rw [hX.slN]; exact hX.le hj) (hX.frS hj) (hX.szS hj) (by unfold Ver.sz; omega) (by rw [hX.slN]; omega)).mono ?_
  rintro e w' ⟨rfl, k, hk, hall, hlast, hp', ho⟩
  rw [hX.slN] at hk hall
  show _ ∧ ∃ k, IsTrim (L.set j none) k ∧ Hp w' P ((L.set j none).take k) st ∧ Only P w w'
  have htr : IsTrim (L.set j none) k := by
    refine ⟨by rw [List.length_set]; exact hk, fun m h1 h2 => ?_, fun h0 => ?_⟩
    · rw [List.length_set] at h2
      obtain ⟨o, ho⟩ : ∃ o, (L.set j none)[m]? = some o := ⟨_, List.getElem?_eq_getElem (by rw [List.length_set]; exact h2)⟩
      have e := hX.freed_sz hj ho
      rw [hall m h1 h2] at e
      cases o with
      | none => exact ho
      | some x => simp [osz, Ver.sz] at e; omega
    · obtain ⟨o, ho⟩ : ∃ o, (L.set j none)[k - 1]? = some o := ⟨_, List.getElem?_eq_getElem (by rw [List.length_set]; omega)⟩
      have e := hX.freed_sz hj ho
      have := hlast h0
      cases o with
      | none => rw [e] at this; exact absurd rfl this
      | some x => exact ⟨x, ho⟩
  exact ⟨rfl, k, htr, ⟨_, hp', hX.free hj htr⟩, ho⟩
end Go.Proofs.Ythghnhcopmmmpaa.Mem
/- lapidaryref05's page in memory: slots, versions, where they begin; New. -/
namespace Go.Proofs.Ythghnhcopmmmpaa.Mem
open Go.RowKit Go.Proofs.Ythghnhcopmmmpaa.Nums
set_option linter.unusedVariables false
set_option linter.unusedSimpArgs false
set_option maxRecDepth 100000
set_option maxHeartbeats 1000000
/-- a slot, and its Data's slice -/
abbrev Ent := Option (Ver × Nat) × Value
def entV : Ent → List Value
  | (none, _) => [.bool false, .int .u64 0, .int .u64 0, .int .u64 0, .int .i64 0, .int .i64 0, .slice none 0 0, .int .i64 0]
  | (some (v, f), u) => [.bool true, .int .u64 v.r, .int .u64 v.a, .int .u64 v.b, .int .i64 ((v.p : Int) - 1), .int .i64 ((v.s : Int) - 1), u, .int .i64 f]
theorem entV_len (e : Ent) : (entV e).length = 8 := by
  obtain ⟨o, u⟩ := e
  cases o <;> rfl
def ents (E : List Ent) : List Value := E.flatMap entV
theorem ents_len (E : List Ent) : (ents E).length = E.length * 8 := by
  induction E with
  | nil => rfl
  | cons e l ih => show ((entV e) ++ ents l).length = _; rw [List.length_append, entV_len, ih, List.length_cons]; omega
theorem ents_app (E E' : List Ent) : ents (E ++ E') = ents E ++ ents E' := by simp [ents]
theorem ents_at {E : List Ent} : ∀ {i : Nat} {e : Ent}, E[i]? = some e → ∀ {j : Nat}, j < 8 → (ents E)[i * 8 + j]? = (entV e)[j]? := by
  induction E with
  | nil => intro i e h; simp at h
  | cons x l ih =>
    intro i e h j hj
    show ((entV x) ++ ents l)[i * 8 + j]? = _
    cases i with
    | zero =>
      simp at h; subst h
      rw [Nat.zero_mul, Nat.zero_add, List.getElem?_append_left (by rw [entV_len]; exact hj)]
    | succ i =>
      rw [List.getElem?_append_right (by rw [entV_len]; omega), entV_len, show (i + 1) * 8 + j - 8 = i * 8 + j by omega]
      exact ih (by simpa using h) hj
theorem ents_set {E : List Ent} {i : Nat} {e e' : Ent} (h : E[i]? = some e) {j : Nat} (hj : j < 8) {x : Value} (hx : entV e' = (entV e).set j x) : ents (E.set i e') = (ents E).set (i * 8 + j) x := by
  have hi := (List.getElem?_eq_some_iff.1 h).1
  apply List.ext_getElem?
  intro k
  by_cases hk : k < E.length * 8
  · obtain ⟨y, hy⟩ : ∃ y, E[k / 8]? = some y := ⟨_, List.getElem?_eq_getElem (by omega)⟩
    have hkk : k / 8 * 8 + k % 8 = k := by omega
    have h2 := ents_at hy (j := k % 8) (by omega)
    rw [hkk] at h2
    by_cases hki : k / 8 = i
    · have h3 : (E.set i e')[k / 8]? = some e' := by rw [List.getElem?_set, if_pos hki.symm, if_pos hi]
      have h4 := ents_at h3 (j := k % 8) (by omega)
      rw [hkk] at h4
      rw [hki] at hy
      rw [h] at hy
      injection hy with hy
      subst hy
      rw [h4, hx]
      by_cases hkj : k % 8 = j
      · obtain rfl : k = i * 8 + j := by omega
        rw [hkj, List.getElem?_set, if_pos rfl, if_pos (by rw [entV_len]; exact hj), List.getElem?_set, if_pos rfl, if_pos (by rw [ents_len]; exact hk)]
      · rw [List.getElem?_set, if_neg (Ne.symm hkj), List.getElem?_set, if_neg (by omega), h2]
    · have h3 : (E.set i e')[k / 8]? = some y := by rw [List.getElem?_set, if_neg (Ne.symm hki)]; exact hy
      have h4 := ents_at h3 (j := k % 8) (by omega)
      rw [hkk] at h4
      rw [h4, List.getElem?_set, if_neg (by omega), h2]
  · rw [List.getElem?_eq_none (by rw [ents_len, List.length_set]; omega), List.getElem?_eq_none (by rw [List.length_set, ents_len]; omega)]
/-- only blocks of F have turned, and there are new ones -/
structure Turn (F : Nat → Prop) (w w' : World) : Prop where
  os : w'.os = w.os
  tape : w'.tape = w.tape
  output : w'.output = w.output
  size : w.heap.size ≤ w'.heap.size
  block : ∀ k, k < w.heap.size → ¬ F k → w'.heap[k]? = w.heap[k]?
theorem Turn.refl (F : Nat → Prop) (w : World) : Turn F w w := ⟨rfl, rfl, rfl, Nat.le_refl _, fun _ _ _ => rfl⟩
theorem Turn.trans {F : Nat → Prop} {a b c : World} (h : Turn F a b) (k : Turn F b c) : Turn F a c :=
  ⟨k.os.trans h.os, k.tape.trans h.tape, k.output.trans h.output, Nat.le_trans h.size k.size, fun i hi hf => (k.block i (Nat.lt_of_lt_of_le hi h.size) hf).trans (h.block i hi hf)⟩
theorem Turn.of_below {F : Nat → Prop} {w w' : World} (h : Below w.heap.size w w') : Turn F w w' := ⟨h.os, h.tape, h.output, h.size, fun k hk _ => h.block k hk⟩
theorem Turn.of_only {F : Nat → Prop} {w w' : World} {g : Nat} (h : Only g w w') (hg : F g) : Turn F w w' := ⟨h.os, h.tape, h.output, h.size, fun k hk hf => h.block k hk (fun e => hf (e ▸ hg))⟩
theorem Turn.below {F : Nat → Prop} {w w' : World} {B : Nat} (h : Turn F w w') (hB : B ≤ w.heap.size) (hF : ∀ g, F g → B ≤ g) : Below B w w' := ⟨h.os, h.tape, h.output, h.size, fun k hk => h.block k (by omega) (fun hf => by have := hF k hf; omega)⟩
theorem Turn.drewN {F : Nat → Prop} {w w' : World} (h : Turn F w w') (n : Nat) : Turn F w (w'.drewN n) := ⟨h.os, h.tape, h.output, h.size, h.block⟩
/-- block R is the page of the reference with these slots; F: all its blocks -/
structure RfA (w : World) (F : Nat → Prop) (R : Nat) (E : List Ent) (st : Nat) (A : Option Addr) (c : Nat) : Prop where
  blk : Blk w R 45 #[.slice A E.length c, .int .i64 st]
  fr : F R
  own : w.ownsRow 0 122 8 (.slice A E.length c) E.length (ents E)
  fown : ∀ g, (Value.slice A E.length c).ownBlock = some g → F g
  data : ∀ (i : Nat) (v : Ver) (f : Nat) (u : Value), E[i]? = some (some (v, f), u) → OwnB w 0 u v.d.length (u8s v.d) ∧ ∀ g, u.ownBlock = some g → F g
  lt : ∀ g, F g → g < w.heap.size
def Rf (w : World) (F : Nat → Prop) (R : Nat) (L : SL) (st : Nat) : Prop := ∃ E A c, E.map Prod.fst = L ∧ RfA w F R E st A c
section
variable {w w' : World} {F : Nat → Prop} {R st c : Nat} {E : List Ent} {L : SL} {A : Option Addr}
theorem RfA.keep (h : RfA w F R E st A c) (hk : ∀ g, F g → w'.heap[g]? = w.heap[g]?) (hs : w.heap.size ≤ w'.heap.size) : RfA w' F R E st A c :=
  ⟨(hk R h.fr).trans h.blk, h.fr, own_keep h.own fun g hg => hk g (h.fown g hg), h.fown, fun i v f u hu => ⟨own_keep (h.data i v f u hu).1 fun g hg => hk g ((h.data i v f u hu).2 g hg), (h.data i v f u hu).2⟩, fun g hg => Nat.lt_of_lt_of_le (h.lt g hg) hs⟩
theorem RfA.below (h : RfA w F R E st A c) (hb : Below w.heap.size w w') : RfA w' F R E st A c := h.keep (fun g hg => hb.block g (h.lt g hg)) hb.size
theorem RfA.only {P : Nat} (h : RfA w F R E st A c) (ho : Only P w w') (hP : ¬ F P) : RfA w' F R E st A c := h.keep (fun g hg => ho.block g (h.lt g hg) (fun e => hP (e ▸ hg))) ho.size
theorem RfA.turn {G : Nat → Prop} (h : RfA w F R E st A c) (ho : Turn G w w') (hG : ∀ g, F g → ¬ G g) : RfA w' F R E st A c := h.keep (fun g hg => ho.block g (h.lt g hg) (hG g hg)) ho.size
theorem RfA.more {G : Nat → Prop} (h : RfA w F R E st A c) (hG : ∀ g, F g → G g) (hl : ∀ g, G g → g < w.heap.size) : RfA w G R E st A c :=
  ⟨h.blk, hG _ h.fr, h.own, fun g hg => hG g (h.fown g hg), fun i v f u hu => ⟨(h.data i v f u hu).1, fun g hg => hG g ((h.data i v f u hu).2 g hg)⟩, hl⟩
theorem RfA.le (h : RfA w F R E st A c) : E.length ≤ c ∧ c ≤ maxLen := by
  have := Sl.of_own h.own
  obtain ⟨A', c', hv, hs⟩ := this
  injection hv with h1 h2 h3
  subst h3
  exact ⟨hs.le, hs.cap⟩
/-- the array's block, where there is a slot -/
theorem RfA.arr (h : RfA w F R E st A c) {i : Nat} (hi : i < E.length) : ∃ g cur, A = some ⟨g, 0, none⟩ ∧ Blk w g 122 cur ∧ cur.size = c * 8 ∧ cur.toList.take (E.length * 8) = ents E ∧ F g := by
  rcases h.own.2 with ⟨h1, h2⟩ | ⟨g, cap, cur, hv, hb, hg, hn, hm, hs, ht⟩
  · exact absurd h2 (by omega)
  · injection hv with h1 h2 h3
    subst h1 h3
    exact ⟨g, cur, rfl, hg, hs, ht, h.fown g rfl⟩
theorem RfA.cell (h : RfA w F R E st A c) {i : Nat} {e : Ent} (he : E[i]? = some e) {g : Nat} (hA : A = some ⟨g, 0, none⟩) {j : Nat} (hj : j < 8) : w.cell? ⟨g, i * 8 + j, none⟩ = (entV e)[j]? := by
  have hi := (List.getElem?_eq_some_iff.1 he).1
  obtain ⟨g', cur, hA', hg, hs, ht, _⟩ := h.arr hi
  rw [hA] at hA'
  injection hA' with hA'; injection hA' with hA'
  subst hA'
  have h1 := ents_at he hj
  rw [Blk.cell hg, ← h1, ← ht, List.getElem?_take, if_pos (by omega), Array.getElem?_toList]
theorem RfA.frozen (h : RfA w F R E st A c) {i : Nat} (hi : i < E.length) {g : Nat} (hA : A = some ⟨g, 0, none⟩) (k : Nat) : w.frozen? ⟨g, k, none⟩ = false := by
  obtain ⟨g', cur, hA', hg, hs, ht, _⟩ := h.arr hi
  rw [hA] at hA'
  injection hA' with hA'; injection hA' with hA'
  subst hA'
  exact hg.frozen k
end
theorem RfA.free8 {w : World} {F : Nat → Prop} {R st c : Nat} {E : List Ent} {A : Option Addr} (h : RfA w F R E st A c) {i : Nat} {u : Value} (he : E[i]? = some (none, u)) {g : Nat} (hA : A = some ⟨g, 0, none⟩) :
    w.cell? ⟨g, i * 8, none⟩ = some (.bool false) ∧ w.cell? ⟨g, i * 8 + 1, none⟩ = some (.int .u64 0) ∧ w.cell? ⟨g, i * 8 + 2, none⟩ = some (.int .u64 0) ∧ w.cell? ⟨g, i * 8 + 3, none⟩ = some (.int .u64 0) ∧ w.cell? ⟨g, i * 8 + 4, none⟩ = some (.int .i64 0) ∧ w.cell? ⟨g, i * 8 + 5, none⟩ = some (.int .i64 0) ∧ w.cell? ⟨g, i * 8 + 6, none⟩ = some (.slice none 0 0) ∧ w.cell? ⟨g, i * 8 + 7, none⟩ = some (.int .i64 0) :=
  ⟨h.cell he hA (j := 0) (by omega), h.cell he hA (j := 1) (by omega), h.cell he hA (j := 2) (by omega), h.cell he hA (j := 3) (by omega), h.cell he hA (j := 4) (by omega), h.cell he hA (j := 5) (by omega), h.cell he hA (j := 6) (by omega), h.cell he hA (j := 7) (by omega)⟩
theorem RfA.full8 {w : World} {F : Nat → Prop} {R st c : Nat} {E : List Ent} {A : Option Addr} (h : RfA w F R E st A c) {i : Nat} {u : Value} {v : Ver} {f : Nat} (he : E[i]? = some (some (v, f), u)) {g : Nat} (hA : A = some ⟨g, 0, none⟩) :
    w.cell? ⟨g, i * 8, none⟩ = some (.bool true) ∧ w.cell? ⟨g, i * 8 + 1, none⟩ = some (.int .u64 v.r) ∧ w.cell? ⟨g, i * 8 + 2, none⟩ = some (.int .u64 v.a) ∧ w.cell? ⟨g, i * 8 + 3, none⟩ = some (.int .u64 v.b) ∧ w.cell? ⟨g, i * 8 + 4, none⟩ = some (.int .i64 ((v.p : Int) - 1)) ∧ w.cell? ⟨g, i * 8 + 5, none⟩ = some (.int .i64 ((v.s : Int) - 1)) ∧ w.cell? ⟨g, i * 8 + 6, none⟩ = some u ∧ w.cell? ⟨g, i * 8 + 7, none⟩ = some (.int .i64 f) :=
  ⟨h.cell he hA (j := 0) (by omega), h.cell he hA (j := 1) (by omega), h.cell he hA (j := 2) (by omega), h.cell he hA (j := 3) (by omega), h.cell he hA (j := 4) (by omega), h.cell he hA (j := 5) (by omega), h.cell he hA (j := 6) (by omega), h.cell he hA (j := 7) (by omega)⟩
theorem rnew_any (w : World) : Calls Try.prog 16 #[] w fun e w' => e = .returned (.pointer (some ⟨w.heap.size, 0, none⟩)) ∧ RfA w' (fun g => g = w.heap.size) w.heap.size [] 512 none 0 ∧ Below w.heap.size w w' := by
  go_enter Try.func16, Try.ntmps16
  go_wp2_with fail
  go_ret
  refine ⟨rfl, ⟨Blk.new w _ _, rfl, World.ownsRow_nil _ _ _ _, fun g hg => by simp [Value.ownBlock] at hg, fun i v f u hu => by simp at hu, fun g hg => by subst hg; rw [size_alloc]; omega⟩, bel_alloc _ _⟩
theorem map_at {E : List Ent} {k : Nat} {o : Option (Ver × Nat)} {u : Value} (h : E[k]? = some (o, u)) : (E.map Prod.fst)[k]? = some o := by rw [List.getElem?_map, h]; rfl
theorem tot_small {L : SL} (h : ∀ (i : Nat) (v : Ver) (f : Nat), L[i]? = some (some (v, f)) → v.d.length ≤ 200) : ∀ k, k ≤ L.length → tot (L.take k) ≤ 230 * k
  | 0, _ => by simp [tot]
  | k + 1, hk => by
    obtain ⟨o, ho⟩ : ∃ o, L[k]? = some o := ⟨_, List.getElem?_eq_getElem (by omega)⟩
    have ih := tot_small h k (by omega)
    rw [tot_take_succ ho]
    cases o with
    | none => simp [osz]; omega
    | some x =>
      obtain ⟨v, f⟩ := x
      have := h k v f ho
      show tot (L.take k) + (30 + v.d.length) ≤ _
      omega
theorem next_step {L : SL} {k : Nat} {o : Option (Ver × Nat)} (h : L[k]? = some o) : decide (nextL L < k + 1) = (decide (nextL L < k) || o.isNone) := by
  rw [Bool.eq_iff_iff, Bool.or_eq_true, decide_eq_true_eq, decide_eq_true_eq]
  constructor
  · intro hlt
    by_cases h2 : nextL L < k
    · exact .inl h2
    · right
      obtain rfl : nextL L = k := by omega
      rw [nextL_free (List.getElem?_eq_some_iff.1 h).1] at h
      injection h with h
      subst h
      rfl
  · intro hor
    rcases hor with h2 | h2
    · omega
    · apply Classical.byContradiction
      intro hn
      obtain ⟨x, hx⟩ := nextL_full (L := L) (j := k) (by omega)
      rw [h] at hx
      injection hx with hx
      subst hx
      cases h2
/-- how much one more may have, as the reference reckons it -/
theorem rroom_any {w : World} {F : Nat → Prop} {R st c : Nat} {E : List Ent} {A : Option Addr} (h : RfA w F R E st A c) (hl : E.length ≤ 128) (hv : ∀ (i : Nat) (v : Ver) (f : Nat), (E.map Prod.fst)[i]? = some (some (v, f)) → v.d.length ≤ 200) :
    Calls Try.prog 22 #[.pointer (some ⟨R, 0, none⟩)] w fun e w' => e = .returned (.int .i64 (roomL (E.map Prod.fst))) ∧ Below w.heap.size w w' := by
  have H := Lib.hid h
  have x0 := h.blk.cell 0
  have x1 := h.blk.cell 1
  have hle := h.le
  unfold maxLen at hle
  obtain ⟨L, hL⟩ : ∃ L, E.map Prod.fst = L := ⟨_, rfl⟩
  have hLl : L.length = E.length := by rw [← hL, List.length_map]
  have HLL := Lib.hid hL
  rw [hL] at hv ⊢
  have HV := Lib.hid hv
  have hnl := nextL_le L
  have htl := tot_small hv L.length (Nat.le_refl _)
  rw [List.take_length] at htl
  clear h hL hv
  go_enter Try.func22, Try.ntmps22
  go_wp2_with fail
  clear x0 x1
  go_loopw [3, 4, 14] (fun nv fv i wr => ∃ k : Nat, k ≤ E.length ∧ i = .int .i64 k ∧ nv = .int .i64 (478 - 4 * (k : Int) - (tot (L.take k) : Nat)) ∧ fv = .bool (decide (nextL L < k)) ∧ Below w.heap.size w wr) (fun _ _ i _ => E.length - (intOf i).toNat)
  case atStart => exact ⟨0, by omega, rfl, by simp [tot], rfl, Below.refl _ _⟩
  case round =>
    obtain ⟨k, hk, rfl, rfl, rfl, hb⟩ := hrel
    have HB := Lib.hid hb
    have HK := Lib.hid (H.out.below hb)
    have htk := tot_small HV.out k (by omega)
    by_cases hlt : k < E.length
    · have hlt' : (k : Int) < E.length := by omega
      obtain ⟨⟨o, u⟩, he⟩ : ∃ e, E[k]? = some e := ⟨_, List.getElem?_eq_getElem hlt⟩
      obtain ⟨g, cur, rfl, _, _, _, _⟩ := HK.out.arr hlt
      have hLk : L[k]? = some o := by rw [← HLL.out]; exact map_at he
      have HT := Lib.hid (tot_take_succ hLk)
      have HN := Lib.hid (next_step hLk)
      cases o with
      | none =>
        obtain ⟨y0, y1, y2, y3, y4, y5, y6, y7⟩ := HK.out.free8 he rfl
        go_wp2_with fail
        go_roundw
        case rel =>
          refine ⟨k + 1, by omega, by go_num, ?_, ?_, ?_⟩
          · rw [HT.out]; simp only [osz]; go_num
          · rw [HN.out]; simp
          · exact HB.out.trans ((bel_alloc _ _).mono HB.out.size)
        case measure => simp [intOf]; omega
      | some x =>
        obtain ⟨v, f⟩ := x
        obtain ⟨A', c', rfl, hsl⟩ := Sl.of_own (H.out.data k v f u he).1
        have hvl := HV.out k v f hLk
        obtain ⟨y0, y1, y2, y3, y4, y5, y6, y7⟩ := HK.out.full8 he rfl
        go_wp2_with fail
        go_roundw
        case rel =>
          refine ⟨k + 1, by omega, by go_num, ?_, ?_, ?_⟩
          · rw [HT.out]; simp only [osz, Ver.sz]; go_num
          · rw [HN.out]; simp
          · exact HB.out.trans ((bel_alloc _ _).mono HB.out.size)
        case measure => simp [intOf]; omega
    · obtain rfl : k = E.length := by omega
      rw [← hLl, List.take_length] at htk ⊢
      have HRM : Hid (∀ x : Int, x = 478 - 4 * ((max L.length (nextL L + 1) : Nat) : Int) - ((tot L : Nat) : Int) → roomL L = if x < 0 then -1 else x) := Lib.hid (by
        intro x hx
        unfold roomL
        rw [← hx]
        split <;> omega)
      by_cases hn : nextL L < L.length
      · have hd : decide (nextL L < L.length) = true := decide_eq_true hn
        have hm : max L.length (nextL L + 1) = L.length := by omega
        rw [hm] at HRM
        have e := HRM.out _ rfl
        rw [hd]
        clear HRM
        by_cases h0 : (478 : Int) - 4 * (L.length : Int) - (tot L : Nat) < 0
        · rw [if_pos h0] at e
          have HE := Lib.hid e
          clear e
          go_wp2_with fail
          go_ret
          exact ⟨by rw [HE.out]; first | rfl | (rw [hLl]; rfl), HB.out⟩
        · rw [if_neg h0] at e
          have HE := Lib.hid e
          clear e
          go_wp2_with fail
          go_ret
          exact ⟨by rw [HE.out]; first | rfl | (rw [hLl]; rfl), HB.out⟩
      · have hd : decide (nextL L < L.length) = false := decide_eq_false hn
        have hm : max L.length (nextL L + 1) = L.length + 1 := by omega
        rw [hm] at HRM
        have e := HRM.out (478 - 4 * (L.length : Int) - ((tot L : Nat) : Int) - 4) (by push_cast; omega)
        rw [hd]
        clear HRM
        by_cases h0 : (478 : Int) - 4 * (L.length : Int) - (tot L : Nat) - 4 < 0
        · rw [if_pos h0] at e
          have HE := Lib.hid e
          clear e
          go_wp2_with fail
          go_ret
          exact ⟨by rw [HE.out]; first | rfl | (rw [hLl]; rfl), HB.out⟩
        · rw [if_neg h0] at e
          have HE := Lib.hid e
          clear e
          go_wp2_with fail
          go_ret
          exact ⟨by rw [HE.out]; first | rfl | (rw [hLl]; rfl), HB.out⟩
end Go.Proofs.Ythghnhcopmmmpaa.Mem
/- lapidaryref05.Get. -/
namespace Go.Proofs.Ythghnhcopmmmpaa.Mem
open Go.RowKit Go.Proofs.Ythghnhcopmmmpaa.Nums
set_option linter.unusedVariables false
set_option linter.unusedSimpArgs false
set_option maxRecDepth 100000
set_option maxHeartbeats 1000000
theorem rget_ret {w : World} {b : Nat} {v0 v1 v2 v3 v4 v5 q : Value} {tmps : Array Value} (h : Blk w b 33 #[v0, v1, v2, v3, v4, v5]) (h4 : tmps.getD 4 undef = .pointer (some ⟨b, 0, none⟩)) (h5 : tmps.getD 5 undef = q) :
    (results Try.f27 tmps).run Try.prog w = .ok (.tuple #[.agg #[v0, v1, v2, v3, v4, v5], q]) w := by
  have x0 := h.cell 0
  have x1 := h.cell 1
  have x2 := h.cell 2
  have x3 := h.cell 3
  have x4 := h.cell 4
  have x5 := h.cell 5
  have g4 : tmps[4]?.getD undef = .pointer (some ⟨b, 0, none⟩) := by simpa using h4
  have g5 : tmps[5]?.getD undef = q := by simpa using h5
  simp [results, Try.results27, go_sem, g4, g5, x0, x1, x2, x3, x4, x5]
/-- what lies in a slot of the reference's -/
def atE (E : List Ent) (i : Int) : Option Ent := if i < 0 then none else E[i.toNat]?
section
variable {w : World} {F : Nat → Prop} {R st c : Nat} {E : List Ent} {A : Option Addr}
theorem rget_nil (i : Int) (w : World) : Calls Try.prog 27 #[.pointer none, .int .i64 i] w fun e w' => e = .returned (.tuple #[zeroT, .bool false]) ∧ Below w.heap.size w w' := by
  have HT0 : Hid (Blk (w.alloc (.cells #[.int .u64 0, .int .u64 0, .int .u64 0, .int .i64 0, .int .i64 0, .slice none 0 0] 33)) w.heap.size 33 #[.int .u64 0, .int .u64 0, .int .u64 0, .int .i64 0, .int .i64 0, .slice none 0 0]) := Lib.hid (Blk.new w _ _)
  go_enter Try.func27, Try.ntmps27
  go_wp2_with fail
  exact bodyPost_ret (rget_ret HT0.out rfl rfl) rfl ⟨rfl, bel_alloc _ _⟩
theorem rget_none (h : RfA w F R E st A c) (i : Int) (hn : atL (E.map Prod.fst) i = none) :
    Calls Try.prog 27 #[.pointer (some ⟨R, 0, none⟩), .int .i64 i] w fun e w' => e = .returned (.tuple #[zeroT, .bool false]) ∧ Below w.heap.size w w' := by
  have HT0 : Hid (Blk (w.alloc (.cells #[.int .u64 0, .int .u64 0, .int .u64 0, .int .i64 0, .int .i64 0, .slice none 0 0] 33)) w.heap.size 33 #[.int .u64 0, .int .u64 0, .int .u64 0, .int .i64 0, .int .i64 0, .slice none 0 0]) := Lib.hid (Blk.new w _ _)
  have hle := h.le
  unfold maxLen at hle
  have h2 := h.below (bel_alloc w (.cells #[.int .u64 0, .int .u64 0, .int .u64 0, .int .i64 0, .int .i64 0, .slice none 0 0] 33))
  have x0 := h2.blk.cell 0
  have x1 := h2.blk.cell 1
  by_cases hi : i < 0
  · clear h2 hn
    go_enter Try.func27, Try.ntmps27
    go_wp2_with fail
    exact bodyPost_ret (rget_ret HT0.out rfl rfl) rfl ⟨rfl, bel_alloc _ _⟩
  rcases atL_none hn with h0 | h0 | ⟨s, rfl, hs⟩
  · exact absurd h0 hi
  · rw [List.length_map] at h0
    clear h2 hn
    go_enter Try.func27, Try.ntmps27
    go_wp2_with fail
    exact bodyPost_ret (rget_ret HT0.out rfl rfl) rfl ⟨rfl, bel_alloc _ _⟩
  · have hsl : s < E.length := by have := (List.getElem?_eq_some_iff.1 hs).1; rwa [List.length_map] at this
    obtain ⟨⟨o, u⟩, he⟩ : ∃ e, E[s]? = some e := ⟨_, List.getElem?_eq_getElem hsl⟩
    rw [map_at he] at hs
    injection hs with hs
    subst hs
    obtain ⟨g, cur, rfl, _, _, _, _⟩ := h.arr hsl
    obtain ⟨y0, _⟩ := h2.free8 he rfl
    have h0' : ¬ (E.length : Int) ≤ s := by omega
    have h1' : (s : Int) < E.length := by omega
    clear h2 hn
    go_enter Try.func27, Try.ntmps27
    go_wp2_with fail
    exact bodyPost_ret (rget_ret HT0.out rfl rfl) rfl ⟨rfl, bel_alloc _ _⟩
theorem rget_some (h : RfA w F R E st A c) (s : Nat) (v : Ver) (f : Nat) (u : Value) (he : E[s]? = some (some (v, f), u)) :
    Calls Try.prog 27 #[.pointer (some ⟨R, 0, none⟩), .int .i64 s] w fun e w' => e = .returned (.tuple #[tupV v u, .bool true]) ∧ Below w.heap.size w w' := by
  have hle := h.le
  unfold maxLen at hle
  have h2 := h.below (bel_alloc w (.cells #[.int .u64 0, .int .u64 0, .int .u64 0, .int .i64 0, .int .i64 0, .slice none 0 0] 33))
  obtain ⟨Au, cu, rfl, hsl⟩ := Sl.of_own (h.data s v f u he).1
  have HT0 : Hid (Blk (w.alloc (.cells #[.int .u64 v.r, .int .u64 v.a, .int .u64 v.b, .int .i64 ((v.p : Int) - 1), .int .i64 ((v.s : Int) - 1), .slice Au v.d.length cu] 33)) w.heap.size 33 #[.int .u64 v.r, .int .u64 v.a, .int .u64 v.b, .int .i64 ((v.p : Int) - 1), .int .i64 ((v.s : Int) - 1), .slice Au v.d.length cu]) := Lib.hid (Blk.new w _ _)
  have x0 := h2.blk.cell 0
  have x1 := h2.blk.cell 1
  have hi : ¬ (s : Int) < 0 := by omega
  have hsl : s < E.length := (List.getElem?_eq_some_iff.1 he).1
  obtain ⟨g, cur, rfl, _, _, _, _⟩ := h.arr hsl
  obtain ⟨y0, y1, y2, y3, y4, y5, y6, y7⟩ := h2.full8 he rfl
  have h0' : ¬ (E.length : Int) ≤ s := by omega
  have h1' : (s : Int) < E.length := by omega
  clear h2 h
  go_enter Try.func27, Try.ntmps27
  go_wp2_with fail
  exact bodyPost_ret (rget_ret HT0.out rfl rfl) rfl ⟨rfl, bel_alloc _ _⟩
end
end Go.Proofs.Ythghnhcopmmmpaa.Mem
/- lapidaryref05: a slot written over; Stamp. -/
namespace Go.Proofs.Ythghnhcopmmmpaa.Mem
open Go.RowKit Go.Proofs.Ythghnhcopmmmpaa.Nums
set_option linter.unusedVariables false
set_option linter.unusedSimpArgs false
set_option maxRecDepth 100000
set_option maxHeartbeats 2000000
theorem ents_map_set {E : List Ent} {i : Nat} {o : Option (Ver × Nat)} {u : Value} : (E.set i (o, u)).map Prod.fst = (E.map Prod.fst).set i o := by rw [List.map_set]
/-- cells written one behind the other -/
def putN (w : World) (g : Nat) : Nat → List Value → World
  | _, [] => w
  | b, v :: l => putN (w.setCell ⟨g, b, none⟩ v) g (b + 1) l
theorem putN_blk (g : Nat) (t : TypeId) : ∀ (l : List Value) (b : Nat) (w : World) (cur : Array Value), Blk w g t cur → b + l.length ≤ cur.size → ∃ cur', Blk (putN w g b l) g t cur' ∧ cur'.toList = cur.toList.take b ++ l ++ cur.toList.drop (b + l.length)
  | [], b, w, cur, h, _ => ⟨cur, h, by simp⟩
  | v :: l, b, w, cur, h, hb => by
    rw [List.length_cons] at hb
    obtain ⟨cur', h1, h2⟩ := putN_blk g t l (b + 1) (w.setCell ⟨g, b, none⟩ v) (cur.setIfInBounds b v) (Blk.set_ h b v) (by rw [Array.size_setIfInBounds]; omega)
    refine ⟨cur', h1, ?_⟩
    rw [h2, Array.toList_setIfInBounds]
    have hl : b < cur.toList.length := by rw [Array.length_toList]; omega
    rw [List.take_set, List.drop_set, if_pos (by omega), List.take_succ_eq_append_getElem hl, List.set_append_right _ _ (by rw [List.length_take]; omega), List.length_take, Nat.min_eq_left (by omega), Nat.sub_self, List.set_cons_zero, List.length_cons, show b + (l.length + 1) = b + 1 + l.length by omega]
    simp
theorem putN_only (g : Nat) : ∀ (l : List Value) (b : Nat) (w : World), Only g w (putN w g b l)
  | [], b, w => Only.refl g w
  | v :: l, b, w => ((Only.refl g w).set_ b v).trans (putN_only g l (b + 1) _)
section
variable {w : World} {F : Nat → Prop} {R st c : Nat} {E : List Ent} {A : Option Addr}
/-- only the array's block has turned -/
theorem RfA.arrOnly (h : RfA w F R E st A c) {i g : Nat} {e' : Ent} {w' : World} {cur' : Array Value} (hi : i < E.length) (hA : A = some ⟨g, 0, none⟩) (ho : Only g w w') (hb : Blk w' g 122 cur') (hs : cur'.size = c * 8) (ht : cur'.toList.take (E.length * 8) = ents (E.set i e'))
    (hd : ∀ (v : Ver) (f : Nat) (u : Value), e' = (some (v, f), u) → OwnB w 0 u v.d.length (u8s v.d) ∧ ∀ k, u.ownBlock = some k → F k) : RfA w' F R (E.set i e') st A c := by
  have hle := h.le
  obtain ⟨g', cur, hA', hg, _, _, hFg⟩ := h.arr hi
  rw [hA] at hA'
  injection hA' with hA'; injection hA' with hA'
  subst hA'
  have hRg : R ≠ g := Blk.ne_ h.blk hg (by decide)
  have keep : ∀ {u : Value} {n : Nat} {xs : List Value}, OwnB w 0 u n xs → OwnB w' 0 u n xs := fun hu => own_keep hu fun k hk => ho.block k (hu.lt k hk).2 (fun e => own_blk_ne hu hg (by decide) (by rw [hk, e]))
  refine ⟨by rw [List.length_set]; exact ho.blk h.blk hRg, h.fr, ?_, ?_, ?_, fun k hk => Nat.lt_of_lt_of_le (h.lt k hk) ho.size⟩
  · rw [List.length_set]
    refine ⟨by rw [ents_len, List.length_set], .inr ⟨g, c, cur', by rw [hA], Nat.zero_le _, hb, hle.1, hle.2, hs, ht⟩⟩
  · rw [List.length_set]; exact h.fown
  · intro k v f u hk
    rw [List.getElem?_set] at hk
    by_cases hik : i = k
    · rw [if_pos hik, if_pos hi] at hk
      injection hk with hk
      obtain ⟨h1, h2⟩ := hd v f u hk
      exact ⟨keep h1, h2⟩
    · rw [if_neg hik] at hk
      obtain ⟨h1, h2⟩ := h.data k v f u hk
      exact ⟨keep h1, h2⟩
theorem RfA.put (h : RfA w F R E st A c) {i g j : Nat} {e e' : Ent} {x : Value} (he : E[i]? = some e) (hA : A = some ⟨g, 0, none⟩) (hj : j < 8) (hx : entV e' = (entV e).set j x)
    (hd : ∀ (v : Ver) (f : Nat) (u : Value), e' = (some (v, f), u) → OwnB w 0 u v.d.length (u8s v.d) ∧ ∀ k, u.ownBlock = some k → F k) : RfA (w.setCell ⟨g, i * 8 + j, none⟩ x) F R (E.set i e') st A c := by
  have hi := (List.getElem?_eq_some_iff.1 he).1
  obtain ⟨g', cur, hA', hg, hs, ht, hFg⟩ := h.arr hi
  rw [hA] at hA'
  injection hA' with hA'; injection hA' with hA'
  subst hA'
  refine h.arrOnly hi hA ((Only.refl g w).set_ _ _) (Blk.set_ hg (i * 8 + j) x) (by rw [Array.size_setIfInBounds]; exact hs) ?_ hd
  rw [Array.toList_setIfInBounds, List.take_set, ht, ents_set he hj hx]
theorem ents_cut {E : List Ent} {i : Nat} (hi : i < E.length) (e' : Ent) : ents (E.set i e') = (ents E).take (i * 8) ++ entV e' ++ (ents E).drop (i * 8 + 8) := by
  have h1 : ents E = ents (E.take i) ++ ents (E.drop i) := by rw [← ents_app, List.take_append_drop]
  have h2 : ents (E.drop i) = entV E[i] ++ ents (E.drop (i + 1)) := by rw [List.drop_eq_getElem_cons hi]; rfl
  have l1 : (ents (E.take i)).length = i * 8 := by rw [ents_len, List.length_take]; omega
  rw [List.set_eq_take_append_cons_drop, if_pos hi, ents_app]
  show ents (E.take i) ++ (entV e' ++ ents (E.drop (i + 1))) = _
  have t1 : (ents E).take (i * 8) = ents (E.take i) := by rw [h1, List.take_append_of_le_length (by omega), List.take_of_length_le (by omega)]
  have t2 : (ents E).drop (i * 8 + 8) = ents (E.drop (i + 1)) := by
    rw [h1, h2, ← List.append_assoc, List.drop_append_of_le_length (by rw [List.length_append, l1, entV_len]; omega), List.drop_of_length_le (by rw [List.length_append, l1, entV_len]; omega), List.nil_append]
  rw [t1, t2, List.append_assoc]
theorem RfA.putE (h : RfA w F R E st A c) {i g : Nat} {e' : Ent} (hi : i < E.length) (hA : A = some ⟨g, 0, none⟩)
    (hd : ∀ (v : Ver) (f : Nat) (u : Value), e' = (some (v, f), u) → OwnB w 0 u v.d.length (u8s v.d) ∧ ∀ k, u.ownBlock = some k → F k) : RfA (putN w g (i * 8) (entV e')) F R (E.set i e') st A c := by
  obtain ⟨g', cur, hA', hg, hs, ht, hFg⟩ := h.arr hi
  rw [hA] at hA'
  injection hA' with hA'; injection hA' with hA'
  subst hA'
  have hle := h.le
  obtain ⟨cur', h1, h2⟩ := putN_blk g _ (entV e') (i * 8) w cur hg (by rw [entV_len]; omega)
  have hl : cur'.toList.length = c * 8 := by
    rw [h2, List.length_append, List.length_append, List.length_take, List.length_drop, entV_len, Array.length_toList, hs]
    omega
  refine h.arrOnly hi hA (putN_only g _ _ _) h1 (by rw [← Array.length_toList]; exact hl) ?_ hd
  rw [h2, ents_cut hi, entV_len, ← ht]
  have a1 : (cur.toList.take (i * 8) ++ entV e').length = i * 8 + 8 := by rw [List.length_append, List.length_take, entV_len, Array.length_toList]; omega
  rw [List.take_append, a1, List.take_of_length_le (by rw [a1]; omega), List.take_take, Nat.min_eq_left (by omega), List.drop_take]
end
theorem RfA.three {w : World} {F : Nat → Prop} {R st c : Nat} {E : List Ent} {A : Option Addr} (h : RfA w F R E st A c) {j g a b d : Nat} {e0 e1 e2 e3 : Ent} {x y z : Value} (he : E[j]? = some e0) (hA : A = some ⟨g, 0, none⟩) (ha : a < 8) (hb : b < 8) (hd : d < 8)
    (h1 : entV e1 = (entV e0).set a x) (h2 : entV e2 = (entV e1).set b y) (h3 : entV e3 = (entV e2).set d z)
    (k1 : ∀ (v : Ver) (f : Nat) (u : Value), e1 = (some (v, f), u) → OwnB w 0 u v.d.length (u8s v.d) ∧ ∀ k, u.ownBlock = some k → F k)
    (k2 : ∀ (w : World), RfA w F R (E.set j e1) st A c → ∀ (v : Ver) (f : Nat) (u : Value), e2 = (some (v, f), u) → OwnB w 0 u v.d.length (u8s v.d) ∧ ∀ k, u.ownBlock = some k → F k)
    (k3 : ∀ (w : World), RfA w F R (E.set j e2) st A c → ∀ (v : Ver) (f : Nat) (u : Value), e3 = (some (v, f), u) → OwnB w 0 u v.d.length (u8s v.d) ∧ ∀ k, u.ownBlock = some k → F k) :
    RfA ((((w.setCell ⟨g, j * 8 + a, none⟩ x).setCell ⟨g, j * 8 + b, none⟩ y).setCell ⟨g, j * 8 + d, none⟩ z)) F R (E.set j e3) st A c ∧ Only g w ((((w.setCell ⟨g, j * 8 + a, none⟩ x).setCell ⟨g, j * 8 + b, none⟩ y).setCell ⟨g, j * 8 + d, none⟩ z)) := by
  have hj := (List.getElem?_eq_some_iff.1 he).1
  have q1 := h.put he hA ha h1 k1
  have q2 := q1.put (e := e1) (e' := e2) (x := y) (by rw [List.getElem?_set, if_pos rfl, if_pos hj]) hA hb h2 (k2 _ q1)
  rw [List.set_set] at q2
  have q3 := q2.put (e := e2) (e' := e3) (x := z) (by rw [List.getElem?_set, if_pos rfl, if_pos hj]) hA hd h3 (k3 _ q2)
  rw [List.set_set] at q3
  exact ⟨q3, (((Only.refl g w).set_ _ _).set_ _ _).set_ _ _⟩
theorem RfA.drew {w : World} {F : Nat → Prop} {R st c : Nat} {E : List Ent} {A : Option Addr} (h : RfA w F R E st A c) : RfA w.drew F R E st A c := h.keep (fun _ _ => rfl) (Nat.le_refl _)
theorem RfA.drewN {w : World} {F : Nat → Prop} {R st c : Nat} {E : List Ent} {A : Option Addr} (h : RfA w F R E st A c) (n : Nat) : RfA (w.drewN n) F R E st A c := h.keep (fun _ _ => rfl) (Nat.le_refl _)
theorem rstamp_nil (i : Int) (U : Nat) (p s : Int) (w : World) : Calls Try.prog 62 #[.pointer none, .int .i64 i, .int .u64 U, .agg #[.int .i64 p, .int .i64 s]] w fun e w' => e = .returned (.int .i64 15) ∧ Below w.heap.size w w' := by
  go_enter Try.func62, Try.ntmps62
  go_wp2_with fail
  go_ret
  exact ⟨rfl, bel_alloc _ _⟩
theorem rstamp_form (R : Nat) (i : Int) (U : Nat) (p s : Int) (w : World) (h : ¬ (U ≤ 1099511627776 ∧ nxOk p s = true)) : Calls Try.prog 62 #[.pointer (some ⟨R, 0, none⟩), .int .i64 i, .int .u64 U, .agg #[.int .i64 p, .int .i64 s]] w fun e w' => e = .returned (.int .i64 3) ∧ Below w.heap.size w w' := by
  by_cases hU : U ≤ 1099511627776
  · have hU' : ¬ (1099511627776 : Int) < U := by omega
    have hf : farB p s = true := by
      rw [far_not]
      cases hx : nxOk p s
      · rfl
      · exact absurd ⟨hU, hx⟩ h
    have CF := Lib.hid (far_any p s (w.alloc (.cells #[.int .i64 p, .int .i64 s] 30)))
    rw [hf] at CF
    clear h
    go_enter Try.func62, Try.ntmps62
    go_wp2_with fail
    refine CF.out.mono ?_
    rintro e w2 ⟨rfl, hb⟩
    have HB := Lib.hid (bel_trans (bel_alloc _ _) hb)
    clear hb
    go_wp2_with fail
    go_ret
    exact ⟨rfl, HB.out⟩
  · have hU' : (1099511627776 : Int) < U := by omega
    clear h
    go_enter Try.func62, Try.ntmps62
    go_wp2_with fail
    go_ret
    exact ⟨rfl, bel_alloc _ _⟩
section
variable {w : World} {F : Nat → Prop} {R st c : Nat} {E : List Ent} {A : Option Addr}
theorem rstamp_none (h : RfA w F R E st A c) (i : Int) (U : Nat) (p s : Int) (hn : atL (E.map Prod.fst) i = none) (hU : U ≤ 1099511627776) (hx : nxOk p s = true) :
    Calls Try.prog 62 #[.pointer (some ⟨R, 0, none⟩), .int .i64 i, .int .u64 U, .agg #[.int .i64 p, .int .i64 s]] w fun e w' => e = .returned (.int .i64 15) ∧ Below w.heap.size w w' := by
  have hU' : ¬ (1099511627776 : Int) < U := by omega
  have CF := Lib.hid (far_any p s (w.alloc (.cells #[.int .i64 p, .int .i64 s] 30)))
  rw [far_not, hx] at CF
  have CG : Hid (∀ w0, Below w.heap.size w w0 → Calls Try.prog 27 #[.pointer (some ⟨R, 0, none⟩), .int .i64 i] w0 fun e w' => e = .returned (.tuple #[zeroT, .bool false]) ∧ Below w0.heap.size w0 w') := Lib.hid fun w0 hb => rget_none (h.below hb) i hn
  unfold zeroT at CG
  clear h hx hn
  go_enter Try.func62, Try.ntmps62
  go_wp2_with fail
  refine CF.out.mono ?_
  rintro e w2 ⟨rfl, hb⟩
  have HB := Lib.hid (bel_trans (bel_alloc _ _) hb)
  clear hb
  go_wp2_with fail
  refine (CG.out _ HB.out).mono ?_
  rintro e w3 ⟨rfl, hb3⟩
  have HB3 := Lib.hid (bel_trans HB.out hb3)
  clear hb3
  go_wp2_with fail
  go_ret
  exact ⟨rfl, bel_trans HB3.out (bel_alloc _ _)⟩
theorem rstamp_some (h : RfA w F R E st A c) (j : Nat) (v : Ver) (f : Nat) (u : Value) (U P1 S1 : Nat) (p s : Int) (he : E[j]? = some (some (v, f), u)) (hU : U ≤ 1099511627776) (hx : nxOk p s = true) (hp : p + 1 = P1) (hs : s + 1 = S1) :
    Calls Try.prog 62 #[.pointer (some ⟨R, 0, none⟩), .int .i64 j, .int .u64 U, .agg #[.int .i64 p, .int .i64 s]] w fun e w' => e = .returned (.int .i64 0) ∧ RfA w' F R (E.set j (some (v.stamped U P1 S1, f), u)) st A c ∧ Turn F w w' := by
  have hU' : ¬ (1099511627776 : Int) < U := by omega
  have CF := Lib.hid (far_any p s (w.alloc (.cells #[.int .i64 p, .int .i64 s] 30)))
  rw [far_not, hx] at CF
  have HT : Hid (Blk (w.alloc (.cells #[.int .i64 p, .int .i64 s] 30)) w.heap.size 30 #[.int .i64 p, .int .i64 s]) := Lib.hid (Blk.new w _ _)
  have H := Lib.hid h
  have HE := Lib.hid he
  have hjl : j < E.length := (List.getElem?_eq_some_iff.1 he).1
  obtain ⟨g, cur, rfl, _, _, _, hFg⟩ := h.arr hjl
  have hjl' : (j : Int) < E.length := by omega
  have hle := h.le
  unfold maxLen at hle
  obtain ⟨Au, cu, rfl, hsl⟩ := Sl.of_own (h.data j v f u he).1
  have hszw := size_alloc w (.cells #[.int .i64 p, .int .i64 s] 30)
  clear h hx he hsl
  go_enter Try.func62, Try.ntmps62
  go_wp2_with fail
  refine CF.out.mono ?_
  rintro e w2 ⟨rfl, hb⟩
  have HB := Lib.hid (bel_trans (bel_alloc _ _) hb)
  have HT2 := Lib.hid (Blk.below HT.out hb (by omega))
  clear hb
  have CG := Lib.hid (rget_some (H.out.below HB.out) j v f _ HE.out)
  unfold tupV at CG
  go_wp2_with fail
  refine CG.out.mono ?_
  rintro e w3 ⟨rfl, hb3⟩
  have HB3 := Lib.hid (bel_trans HB.out hb3)
  have HT3 := Lib.hid (Blk.below HT2.out hb3 (Blk.lt HT2.out))
  clear hb3
  obtain ⟨w4, hw4⟩ : ∃ w4, w3.alloc (.cells #[.int .u64 v.r, .int .u64 v.a, .int .u64 v.b, .int .i64 ((v.p : Int) - 1), .int .i64 ((v.s : Int) - 1), .slice Au v.d.length cu] 33) = w4 := ⟨_, rfl⟩
  have HB4 : Hid (Below w.heap.size w w4) := Lib.hid (by rw [← hw4]; exact bel_trans HB3.out (bel_alloc _ _))
  have HT4 : Hid (Blk w4 w.heap.size 30 #[.int .i64 p, .int .i64 s]) := Lib.hid (by rw [← hw4]; exact Blk.alloc HT3.out _)
  have H4 := Lib.hid (H.out.below HB4.out)
  have HW4 := Lib.hid hw4
  clear hw4
  go_wp2_with fail
  rw [HW4.out]
  have eP : ((P1 : Int) - 1) = p := by omega
  have eS : ((S1 : Int) - 1) = s := by omega
  have dat : ∀ (w : World) (x : Ver) (E' : List Ent), x.d = v.d → RfA w F R E' st (some ⟨g, 0, none⟩) c → E'[j]? = some (some (x, f), .slice Au v.d.length cu) → ∀ (y : Ver), y.d = v.d → ∀ (v' : Ver) (f' : Nat) (u : Value), ((some (y, f), Value.slice Au v.d.length cu) : Ent) = (some (v', f'), u) → OwnB w 0 u v'.d.length (u8s v'.d) ∧ ∀ k, u.ownBlock = some k → F k := by
    intro w x E' hx hR hE y hy v' f' u hh
    injection hh with h1 h2
    injection h1 with h1
    injection h1 with h1 h3
    subst h1 h2 h3
    have := hR.data j x f _ hE
    rw [hx] at this
    rw [hy]
    exact this
  have self : ∀ e1 : Ent, (E.set j e1)[j]? = some e1 := fun e1 => by rw [List.getElem?_set, if_pos rfl, if_pos hjl]
  have fin1 := RfA.three H4.out (a := 3) (b := 4) (d := 5) (e1 := (some (⟨v.r, v.a, U, v.p, v.s, v.d⟩, f), .slice Au v.d.length cu)) (e2 := (some (⟨v.r, v.a, U, P1, v.s, v.d⟩, f), .slice Au v.d.length cu)) (e3 := (some (v.stamped U P1 S1, f), .slice Au v.d.length cu)) (x := .int .u64 U) (y := .int .i64 p) (z := .int .i64 s) HE.out rfl (by omega) (by omega) (by omega) rfl (by simp only [entV, eP]; rfl) (by simp only [entV, eP, eS, Ver.stamped]; rfl)
    (dat _ v E rfl H4.out HE.out _ rfl) (fun w hR => dat w ⟨v.r, v.a, U, v.p, v.s, v.d⟩ _ rfl hR (self _) _ rfl) (fun w hR => dat w ⟨v.r, v.a, U, P1, v.s, v.d⟩ _ rfl hR (self _) _ rfl)
  have fin2 := RfA.three H4.out (a := 4) (b := 5) (d := 3) (e1 := (some (⟨v.r, v.a, v.b, P1, v.s, v.d⟩, f), .slice Au v.d.length cu)) (e2 := (some (⟨v.r, v.a, v.b, P1, S1, v.d⟩, f), .slice Au v.d.length cu)) (e3 := (some (v.stamped U P1 S1, f), .slice Au v.d.length cu)) (x := .int .i64 p) (y := .int .i64 s) (z := .int .u64 U) HE.out rfl (by omega) (by omega) (by omega) (by simp only [entV, eP]; rfl) (by simp only [entV, eP, eS]; rfl) (by simp only [entV, eP, eS, Ver.stamped]; rfl)
    (dat _ v E rfl H4.out HE.out _ rfl) (fun w hR => dat w ⟨v.r, v.a, v.b, P1, v.s, v.d⟩ _ rfl hR (self _) _ rfl) (fun w hR => dat w ⟨v.r, v.a, v.b, P1, S1, v.d⟩ _ rfl hR (self _) _ rfl)
  have FIN : Hid (∀ w', Only g w4 w' → Turn F w w') := Lib.hid fun w' ho => (Turn.of_below HB4.out).trans (Turn.of_only ho hFg)
  have FIN1 := Lib.hid fin1
  have FIN2 := Lib.hid fin2
  clear fin1 fin2 self dat
  have x0 := H4.out.blk.cell 0
  have x1 := H4.out.blk.cell 1
  obtain ⟨y0, y1, y2, y3, y4, y5, y6, y7⟩ := H4.out.full8 HE.out rfl
  have t0 := HT4.out.cell 0
  have t1 := HT4.out.cell 1
  have z3 := H4.out.frozen hjl rfl (j * 8 + 3)
  have z4 := H4.out.frozen hjl rfl (j * 8 + 4)
  have z5 := H4.out.frozen hjl rfl (j * 8 + 5)
  clear y0 y1 y2 y6 y7
  go_region_with fail
  all_goals (go_wp2_with fail; go_ret)
  all_goals first
    | exact ⟨rfl, RfA.drew FIN1.out.1, (FIN.out _ FIN1.out.2).drewN 1⟩
    | exact ⟨rfl, RfA.drew FIN2.out.1, (FIN.out _ FIN2.out.2).drewN 1⟩
end
end Go.Proofs.Ythghnhcopmmmpaa.Mem
/- lapidaryref05.Free. -/
namespace Go.Proofs.Ythghnhcopmmmpaa.Mem
open Go.RowKit Go.Proofs.Ythghnhcopmmmpaa.Nums
set_option linter.unusedVariables false
set_option linter.unusedSimpArgs false
set_option maxRecDepth 100000
set_option maxHeartbeats 2000000
theorem rfree_of (A : Option Addr) (i : Int) (w : World) (h : Calls Try.prog 27 #[.pointer A, .int .i64 i] w fun e w' => e = .returned (.tuple #[zeroT, .bool false]) ∧ Below w.heap.size w w') :
    Calls Try.prog 63 #[.pointer A, .int .i64 i] w fun e w' => e = .returned (.int .i64 15) ∧ Below w.heap.size w w' := by
  unfold zeroT at h
  have H := Lib.hid h
  clear h
  go_enter Try.func63, Try.ntmps63
  go_wp2_with fail
  refine H.out.mono ?_
  rintro e w2 ⟨rfl, hb⟩
  have HB := Lib.hid hb
  clear hb
  go_wp2_with fail
  go_ret
  exact ⟨rfl, bel_trans HB.out (bel_alloc _ _)⟩
def lenAt (w : World) (R : Nat) : Nat := match w.cell? ⟨R, 0, none⟩ with
  | some (.slice _ n _) => n
  | _ => 0
section
variable {w : World} {F : Nat → Prop} {R st c : Nat} {E : List Ent} {A : Option Addr}
theorem ents_take (E : List Ent) (n : Nat) : ents (E.take n) = (ents E).take (n * 8) := by
  by_cases hn : n ≤ E.length
  · have h1 : ents E = ents (E.take n) ++ ents (E.drop n) := by rw [← ents_app, List.take_append_drop]
    have l1 : (ents (E.take n)).length = n * 8 := by rw [ents_len, List.length_take]; omega
    rw [h1, List.take_append_of_le_length (Nat.le_of_eq l1.symm)]
    exact (List.take_of_length_le (Nat.le_of_eq l1)).symm
  · rw [List.take_of_length_le (by omega), List.take_of_length_le (by rw [ents_len]; omega)]
theorem RfA.lenAt (h : RfA w F R E st A c) : Mem.lenAt w R = E.length := by
  unfold Mem.lenAt
  rw [h.blk.cell 0]
  rfl
/-- fewer slots: the slice cut -/
theorem RfA.shrink (h : RfA w F R E st A c) {n : Nat} (hn : n < E.length) : RfA (w.setCell ⟨R, 0, none⟩ (.slice A n c)) F R (E.take n) st A c := by
  have hle := h.le
  obtain ⟨g, cur, hA, hg, hs, ht, hFg⟩ := h.arr hn
  have hRg : R ≠ g := Blk.ne_ h.blk hg (by decide)
  have ho : Only R w (w.setCell ⟨R, 0, none⟩ (.slice A n c)) := (Only.refl R w).set_ _ _
  have hl : (E.take n).length = n := by rw [List.length_take]; omega
  refine ⟨?_, h.fr, ?_, ?_, fun i v f u hu => ?_, fun k hk => Nat.lt_of_lt_of_le (h.lt k hk) ho.size⟩
  · rw [hl]
    exact Blk.set_ h.blk 0 (.slice A n c)
  · rw [hl]
    refine ⟨by rw [ents_len, hl], .inr ⟨g, c, cur, by rw [hA], Nat.zero_le _, ho.blk hg (Ne.symm hRg), by omega, hle.2, hs, ?_⟩⟩
    rw [ents_take, ← ht, List.take_take, Nat.min_eq_left (by omega)]
  · rw [hl]
    intro k hk
    refine h.fown k ?_
    rw [hA] at hk ⊢
    exact hk
  · have hu' : E[i]? = some (some (v, f), u) := by
      rw [List.getElem?_take] at hu
      split at hu
      · exact hu
      · cases hu
    obtain ⟨h1, h2⟩ := h.data i v f u hu'
    exact ⟨own_keep h1 fun k hk => ho.block k (h1.lt k hk).2 (fun e => own_blk_ne h1 h.blk (by decide) (by rw [hk, e])), h2⟩
theorem rfree_some (h : RfA w F R E st A c) (j : Nat) (v : Ver) (f : Nat) (u : Value) (he : E[j]? = some (some (v, f), u)) :
    Calls Try.prog 63 #[.pointer (some ⟨R, 0, none⟩), .int .i64 j] w fun e w' => e = .returned (.int .i64 0) ∧ ∃ k, IsTrim ((E.map Prod.fst).set j none) k ∧ RfA w' F R ((E.set j (none, .slice none 0 0)).take k) st A c ∧ Turn F w w' := by
  have CG := Lib.hid (rget_some h j v f _ he)
  unfold tupV at CG
  have H := Lib.hid h
  have HE := Lib.hid he
  have hjl : j < E.length := (List.getElem?_eq_some_iff.1 he).1
  obtain ⟨g, cur, rfl, _, _, _, hFg⟩ := h.arr hjl
  have hFR := h.fr
  have hjl' : (j : Int) < E.length := by omega
  have hle := h.le
  unfold maxLen at hle
  obtain ⟨Au, cu, rfl, hsl⟩ := Sl.of_own (h.data j v f u he).1
  clear h he hsl
  go_enter Try.func63, Try.ntmps63
  go_wp2_with fail
  refine CG.out.mono ?_
  rintro e w3 ⟨rfl, hb3⟩
  obtain ⟨w4, hw4⟩ : ∃ w4, w3.alloc (.cells #[.int .u64 v.r, .int .u64 v.a, .int .u64 v.b, .int .i64 ((v.p : Int) - 1), .int .i64 ((v.s : Int) - 1), .slice Au v.d.length cu] 33) = w4 := ⟨_, rfl⟩
  have HB4 : Hid (Below w.heap.size w w4) := Lib.hid (by rw [← hw4]; exact bel_trans hb3 (bel_alloc _ _))
  have H4 := Lib.hid (H.out.below HB4.out)
  have HW4 := Lib.hid hw4
  clear hw4 hb3
  obtain ⟨o0, o1, o2, o3, o4, o5, o6, o7⟩ := H4.out.full8 HE.out rfl
  rw [← HW4.out] at o0 o1 o2 o3 o4 o5 o6 o7
  have x0 := H4.out.blk.cell 0
  have x1 := H4.out.blk.cell 1
  rw [← HW4.out] at x0 x1
  have z0 := H4.out.frozen hjl rfl (j * 8)
  have z1 := H4.out.frozen hjl rfl (j * 8 + 1)
  have z2 := H4.out.frozen hjl rfl (j * 8 + 2)
  have z3 := H4.out.frozen hjl rfl (j * 8 + 3)
  have z4 := H4.out.frozen hjl rfl (j * 8 + 4)
  have z5 := H4.out.frozen hjl rfl (j * 8 + 5)
  have z6 := H4.out.frozen hjl rfl (j * 8 + 6)
  have z7 := H4.out.frozen hjl rfl (j * 8 + 7)
  rw [← HW4.out] at z0 z1 z2 z3 z4 z5 z6 z7
  go_wp2_with fail
  clear o0 o1 o2 o3 o4 o5 o6 o7 z0 z1 z2 z3 z4 z5 z6 z7 x0 x1
  obtain ⟨E1, hE1⟩ : ∃ E1, E.set j (none, .slice none 0 0) = E1 := ⟨_, rfl⟩
  have HE1 := Lib.hid hE1
  have hE1l : E1.length = E.length := by rw [← hE1, List.length_set]
  have HM1 : Hid (E1.map Prod.fst = (E.map Prod.fst).set j none) := Lib.hid (by rw [← hE1, List.map_set])
  have hput : RfA (putN w4 g (j * 8) (entV (none, .slice none 0 0))) F R E1 st (some ⟨g, 0, none⟩) c := by
    rw [← hE1]
    exact H4.out.putE hjl rfl (fun v f u hh => by injection hh with h1 h2; cases h1)
  have htur : Turn F w (putN w4 g (j * 8) (entV (none, .slice none 0 0))) := (Turn.of_below HB4.out).trans (Turn.of_only (putN_only g _ _ _) hFg)
  rw [HW4.out]
  obtain ⟨w5, hw5⟩ : ∃ w5, putN w4 g (j * 8) (entV (none, .slice none 0 0)) = w5 := ⟨_, rfl⟩
  rw [hw5] at hput htur
  have H5 := Lib.hid hput
  have HT5 := Lib.hid htur
  have hw5' : (((((((w4.setCell ⟨g, j * 8, none⟩ (.bool false)).setCell ⟨g, j * 8 + 1, none⟩ (.int .u64 0)).setCell ⟨g, j * 8 + 2, none⟩ (.int .u64 0)).setCell ⟨g, j * 8 + 3, none⟩ (.int .u64 0)).setCell ⟨g, j * 8 + 4, none⟩ (.int .i64 0)).setCell ⟨g, j * 8 + 5, none⟩ (.int .i64 0)).setCell ⟨g, j * 8 + 6, none⟩ (.slice none 0 0)).setCell ⟨g, j * 8 + 7, none⟩ (.int .i64 0) = w5 := hw5
  rw [hw5']
  clear hw5 hw5' hput htur hE1
  go_loopw [] (fun wr => ∃ k : Nat, k ≤ E1.length ∧ RfA wr F R (E1.take k) st (some ⟨g, 0, none⟩) c ∧ (∀ i, k ≤ i → i < E1.length → (E1.map Prod.fst)[i]? = some none) ∧ Turn F w wr) (fun wr => lenAt wr R)
  case atStart => exact ⟨E1.length, Nat.le_refl _, by rw [List.take_of_length_le (Nat.le_refl _)]; exact H5.out, fun i h1 h2 => absurd h2 (by omega), HT5.out⟩
  case round =>
    obtain ⟨k, hk, hR, hall, ht⟩ := hrel
    have HR := Lib.hid hR
    have HA := Lib.hid hall
    have HT := Lib.hid ht
    have hkl : (E1.take k).length = k := by rw [List.length_take]; omega
    have HKL := Lib.hid hkl
    have x0 := hR.blk.cell 0
    have x1 := hR.blk.cell 1
    rw [hkl] at x0 x1
    have z0 := hR.blk.frozen 0
    clear hR hall ht H5 HT5 H4 CG
    have HFIN : Hid (∀ (kk : Nat) (wf : World), kk ≤ E1.length → RfA wf F R (E1.take kk) st (some ⟨g, 0, none⟩) c → (∀ i, kk ≤ i → i < E1.length → (E1.map Prod.fst)[i]? = some none) → (0 < kk → ∃ x, (E1.map Prod.fst)[kk - 1]? = some (some x)) → Turn F w wf → ∃ q, IsTrim ((E.map Prod.fst).set j none) q ∧ RfA wf F R ((E.set j (none, .slice none 0 0)).take q) st (some ⟨g, 0, none⟩) c ∧ Turn F w wf) := Lib.hid (fun kk wf q1 q2 q3 q4 q5 => ⟨kk, by rw [← HM1.out]; exact ⟨by rw [List.length_map]; exact q1, fun i i1 i2 => q3 i i1 (by rw [List.length_map] at i2; exact i2), q4⟩, by rw [HE1.out]; exact q2, q5⟩)
    cases k with
    | zero =>
      go_wp2_with fail
      go_quiet (fail)
      go_wp2_with fail
      go_ret
      exact ⟨rfl, HFIN.out 0 _ (by omega) (HR.out.drewN _) HA.out (fun h => absurd h (by omega)) (HT.out.drewN _)⟩
    | succ k =>
      have hkE : k < E1.length := by omega
      obtain ⟨⟨o, u⟩, hek⟩ : ∃ e, E1[k]? = some e := ⟨_, List.getElem?_eq_getElem hkE⟩
      have hek2 : (E1.take (k + 1))[k]? = some (o, u) := by rw [List.getElem?_take, if_pos (by omega)]; exact hek
      have hmk := map_at hek
      have HMK := Lib.hid hmk
      have k1 : (0 : Int) < (k : Int) + 1 := by omega
      have k2 : (k : Int) < (k : Int) + 1 := by omega
      have k3 : (k : Int) + 1 ≤ c := by have := HR.out.le; rw [hkl] at this; omega
      have k4 : ((k : Int) + 1 - 1) = k := by omega
      have k5 : ¬ c = 0 := by omega
      have k6 : (k : Int) ≤ c := by omega
      have k7 : (0 : Int) ≤ k := by omega
      have HSH := Lib.hid (HR.out.shrink (n := k) (by rw [hkl]; omega))
      cases o with
      | none =>
        obtain ⟨y0, y1, y2, y3, y4, y5, y6, y7⟩ := HR.out.free8 hek2 rfl
        clear y1 y2 y3 y4 y5 y6 y7 hmk hek hek2
        go_wp2_with fail
        go_quiet (fail)
        go_wp2_with fail
        go_region
        all_goals (go_wp2_with fail)
        all_goals go_roundw
        all_goals first
          | exact ⟨k, by omega, by
              have h1 := HSH.out
              rw [List.take_take, Nat.min_eq_left (by omega)] at h1
              exact h1.keep (fun _ _ => rfl) (Nat.le_refl _), fun i i1 i2 => by
              by_cases hik : i = k
              · subst hik; exact HMK.out
              · exact HA.out i (by omega) i2, (HT.out.trans (Turn.of_only ((Only.refl R wr).set_ 0 (.slice (some ⟨g, 0, none⟩) k c)) hFR)).drewN _⟩
          | (have a := HSH.out.lenAt
             have b := HR.out.lenAt
             rw [HKL.out] at b
             rw [List.length_take, HKL.out] at a
             show lenAt (wr.setCell ⟨R, 0, none⟩ (.slice (some ⟨g, 0, none⟩) k c)) R < lenAt wr R
             rw [a, b]
             omega)
      | some x =>
        obtain ⟨xv, xf⟩ := x
        obtain ⟨y0, y1, y2, y3, y4, y5, y6, y7⟩ := HR.out.full8 hek2 rfl
        clear y1 y2 y3 y4 y5 y6 y7 hmk hek hek2
        go_wp2_with fail
        go_quiet (fail)
        go_wp2_with fail
        go_ret
        exact ⟨rfl, HFIN.out (k + 1) _ hk (HR.out.drewN _) HA.out (fun _ => ⟨_, HMK.out⟩) (HT.out.drewN _)⟩
end
end Go.Proofs.Ythghnhcopmmmpaa.Mem
/- lapidaryref05: one slot more, another start; the slots while Insert packs. -/
namespace Go.Proofs.Ythghnhcopmmmpaa.Mem
open Go.RowKit Go.Proofs.Ythghnhcopmmmpaa.Nums
set_option linter.unusedVariables false
set_option linter.unusedSimpArgs false
set_option maxRecDepth 100000
set_option maxHeartbeats 1000000
def zSlot : Array Value := #[.bool false, .int .u64 0, .int .u64 0, .int .u64 0, .int .i64 0, .int .i64 0, .slice none 0 0, .int .i64 0]
theorem infoSlot : (Try.prog.info? 122).map (fun i => (i.zero, i.size, i.bytes)) = some (some (.agg zSlot), 8, 80) := by kernel_rfl
def e0 : Ent := (none, .slice none 0 0)
theorem ents_e0 : ents [e0] = zSlot.toList := rfl
theorem e0_one : ∀ u ∈ ents [e0], u.oneCell' = true := by
  intro u hu
  rw [ents_e0] at hu
  simp [zSlot] at hu
  rcases hu with rfl | rfl | rfl | rfl | rfl <;> rfl
theorem wpl_app_slot {w : World} {ops : Array Oper} {rest : List Oper} {o : Oper} {a : Act} {Q : Exit → Act → World → Prop} (hgd : o.guard = none) (s x : Operand)
    (ho : o.op = .call { callee := .builtin .append, args := #[s, x], argTypes := #[43, 43] })
    (base : Nat) (v : Value) (n : Nat) (xs : List Value) (hs : a.eval s = v) (hown : w.ownsRow base 122 8 v n xs)
    (B : Nat) (y : Value) (m : Nat) (news : List Value) (hy : a.eval x = y) (hx : Lies w B 8 y m news) (h1 : ∀ u ∈ news, u.oneCell' = true)
    (hbytes : n + m ≤ 1000000) (hbase : base ≤ w.heap.size)
    (h : ∀ v' w', w'.ownsRow base 122 8 v' (n + m) (xs ++ news) → Kin w w' v v' → wpList Try.prog ops Q rest (a.put o.dst v') w') : wpList Try.prog ops Q (o :: rest) a w := by
  obtain ⟨i, hi, hz0, hz1, hz2⟩ := info_part infoSlot
  exact wpList_plain hgd fun _ hK => wp_append_mem w s x _ ho base 122 i _ 8 80 Try.underlying43 hi hz0 hz1 hz2 rfl (by omega) v n xs hs hown B y m news hy hx h1 (by unfold maxLen; omega) (by omega) hbase fun v' w' h2 h3 => hK _ _ (h v' w' h2 h3)
section
variable {w w' : World} {F : Nat → Prop} {R st c : Nat} {E : List Ent} {A : Option Addr}
theorem RfA.cap (h : RfA w F R E st A c) (hl : (Value.slice A E.length c).ownBlock = none ∨ ∃ g, A = some ⟨g, 0, none⟩) : True := trivial
/-- one slot more -/
theorem RfA.grow (h : RfA w F R E st A c) {A' : Option Addr} {c' : Nat} {e : Ent} (he : ∀ (v : Ver) (f : Nat) (u : Value), e ≠ (some (v, f), u)) (hown : w'.ownsRow 0 122 8 (.slice A' (E.length + 1) c') (E.length + 1) (ents E ++ ents [e])) (hk : Kin w w' (.slice A E.length c) (.slice A' (E.length + 1) c')) :
    RfA (w'.setCell ⟨R, 0, none⟩ (.slice A' (E.length + 1) c')) (fun g => F g ∨ (w.heap.size ≤ g ∧ g < w'.heap.size)) R (E ++ [e]) st A' c' := by
  have hR : (Value.slice A E.length c).ownBlock ≠ some R := own_blk_ne h.own h.blk (by decide)
  have hbR : Blk w' R 45 #[.slice A E.length c, .int .i64 st] := (hk.1.block R h.blk.lt hR.symm).trans h.blk
  have ho : Only R w' (w'.setCell ⟨R, 0, none⟩ (.slice A' (E.length + 1) c')) := (Only.refl R w').set_ _ _
  have hR' : (Value.slice A' (E.length + 1) c').ownBlock ≠ some R := own_blk_ne hown hbR (by decide)
  have hl : (E ++ [e]).length = E.length + 1 := by simp
  refine ⟨?_, .inl h.fr, ?_, ?_, fun i v f u hu => ?_, fun g hg => ?_⟩
  · rw [hl]
    exact Blk.set_ hbR 0 _
  · rw [hl, ents_app]
    exact own_keep hown fun g hg => ho.block g (hown.lt g hg).2 (fun e => hR' (by rw [hg, e]))
  · rw [hl]
    intro g hg
    rcases hk.2 with h1 | ⟨g', h1, h2⟩
    · left
      refine h.fown g ?_
      rw [← h1, hg]
    · right
      rw [hg] at h1
      injection h1 with h1
      subst h1
      exact ⟨h2, (hown.lt g hg).2⟩
  · have hu' : E[i]? = some (some (v, f), u) := by
      by_cases hi : i < E.length
      · rwa [List.getElem?_append_left hi] at hu
      · rw [List.getElem?_append_right (by omega)] at hu
        cases hj : i - E.length with
        | zero => rw [hj] at hu; simp at hu; exact absurd hu (he v f u)
        | succ k => rw [hj] at hu; simp at hu
    obtain ⟨h1, h2⟩ := h.data i v f u hu'
    refine ⟨own_keep h1 fun k hk2 => ?_, fun k hk2 => .inl (h2 k hk2)⟩
    have hkl := (h1.lt k hk2).2
    have hne : k ≠ R := fun e => own_blk_ne h1 h.blk (by decide) (by rw [hk2, e])
    rw [ho.block k (Nat.lt_of_lt_of_le hkl hk.1.size) hne]
    refine hk.1.block k hkl fun hv => ?_
    rcases h.own.2 with ⟨q1, _⟩ | ⟨g, cap, cur, q1, _, q3, _⟩
    · rw [q1] at hv; simp [Value.ownBlock] at hv
    · rw [q1] at hv
      have hv' : k = g := by simpa [Value.ownBlock] using hv
      subst hv'
      exact own_blk_ne h1 q3 (by decide) hk2
  · rcases hg with hg | hg
    · have := h.lt g hg
      have := hk.1.size
      have := ho.size
      omega
    · have := ho.size
      omega
theorem RfA.setSt (h : RfA w F R E st A c) (n : Nat) : RfA (w.setCell ⟨R, 1, none⟩ (.int .i64 n)) F R E n A c := by
  have ho : Only R w (w.setCell ⟨R, 1, none⟩ (.int .i64 n)) := (Only.refl R w).set_ _ _
  refine ⟨Blk.set_ h.blk 1 _, h.fr, own_keep h.own fun g hg => ho.block g (h.own.lt g hg).2 (fun e => own_blk_ne h.own h.blk (by decide) (by rw [hg, e])), h.fown, fun i v f u hu => ?_, fun g hg => Nat.lt_of_lt_of_le (h.lt g hg) ho.size⟩
  obtain ⟨h1, h2⟩ := h.data i v f u hu
  exact ⟨own_keep h1 fun g hg => ho.block g (h1.lt g hg).2 (fun e => own_blk_ne h1 h.blk (by decide) (by rw [hg, e])), h2⟩
end
/-- the first free slot from k on, or how many slots there are -/
def slotFrom (L : SL) (k : Nat) : Nat := k + nextL (L.drop k)
theorem slotFrom_end (L : SL) : slotFrom L L.length = L.length := by simp [slotFrom, nextL]
theorem slotFrom_zero (L : SL) : slotFrom L 0 = nextL L := by simp [slotFrom]
theorem slotFrom_none {L : SL} {k : Nat} (h : L[k]? = some none) : slotFrom L k = k := by
  obtain ⟨hk, e⟩ := List.getElem?_eq_some_iff.1 h
  unfold slotFrom nextL
  rw [List.drop_eq_getElem_cons hk, e]
  simp [List.findIdx_cons]
theorem slotFrom_some {L : SL} {k : Nat} {x : Ver × Nat} (h : L[k]? = some (some x)) : slotFrom L k = slotFrom L (k + 1) := by
  obtain ⟨hk, e⟩ := List.getElem?_eq_some_iff.1 h
  unfold slotFrom nextL
  rw [List.drop_eq_getElem_cons hk, e, List.findIdx_cons]
  simp
  omega
theorem tot_app_none (L : SL) : tot (L ++ [none]) = tot L := by simp [tot, osz]
theorem packL_app_none (L : SL) : packL (L ++ [none]) = packL L ++ [none] := by
  apply List.ext_getElem?
  intro s
  rw [packL_get]
  by_cases hs : s < L.length
  · rw [List.getElem?_append_left hs, List.getElem?_append_left (by rw [packL_len]; exact hs), packL_get, List.take_append_of_le_length (by omega)]
  · rw [List.getElem?_append_right (by omega), List.getElem?_append_right (by rw [packL_len]; omega), packL_len]
    cases hj : s - L.length with
    | zero => rfl
    | succ k => simp
/-- the slots while Insert packs: the first k moved, the rest where they were -/
def packE (E : List Ent) (k : Nat) : List Ent := E.mapIdx fun i e => if i < k then (e.1.map fun x => (x.1, 512 - tot ((E.map Prod.fst).take (i + 1))), e.2) else e
theorem packE_len (E : List Ent) (k : Nat) : (packE E k).length = E.length := by simp [packE]
theorem packE_get (E : List Ent) (k i : Nat) : (packE E k)[i]? = E[i]?.map fun e => if i < k then (e.1.map fun x => (x.1, 512 - tot ((E.map Prod.fst).take (i + 1))), e.2) else e := by simp [packE]
theorem packE_zero (E : List Ent) : packE E 0 = E := by
  apply List.ext_getElem?
  intro i
  rw [packE_get]
  cases E[i]? <;> simp
theorem packE_end (E : List Ent) : (packE E E.length).map Prod.fst = packL (E.map Prod.fst) := by
  apply List.ext_getElem?
  intro i
  rw [List.getElem?_map, packE_get, packL_get, List.getElem?_map]
  cases h : E[i]? with
  | none => rfl
  | some e =>
    have hi := (List.getElem?_eq_some_iff.1 h).1
    simp [hi]
theorem packE_none {E : List Ent} {k : Nat} {u : Value} (h : E[k]? = some (none, u)) : packE E (k + 1) = packE E k := by
  apply List.ext_getElem?
  intro i
  rw [packE_get, packE_get]
  by_cases hi : i = k
  · subst hi
    rw [h]
    simp
  · congr 1
    funext e
    by_cases h1 : i < k
    · rw [if_pos h1, if_pos (by omega)]
    · rw [if_neg h1, if_neg (by omega)]
theorem packE_some {E : List Ent} {k : Nat} {v : Ver} {f : Nat} {u : Value} (h : E[k]? = some (some (v, f), u)) : packE E (k + 1) = (packE E k).set k (some (v, 512 - tot ((E.map Prod.fst).take (k + 1))), u) := by
  have hk := (List.getElem?_eq_some_iff.1 h).1
  apply List.ext_getElem?
  intro i
  rw [packE_get]
  by_cases hi : i = k
  · subst hi
    rw [List.getElem?_set, if_pos rfl, if_pos (by rw [packE_len]; exact hk), h]
    simp
  · rw [List.getElem?_set, if_neg (Ne.symm hi), packE_get]
    congr 1
    funext e
    by_cases h1 : i < k
    · rw [if_pos h1, if_pos (by omega)]
    · rw [if_neg h1, if_neg (by omega)]
theorem packE_at {E : List Ent} {k : Nat} {e : Ent} (h : E[k]? = some e) : (packE E k)[k]? = some e := by
  rw [packE_get, h]
  simp
theorem rins_nil (r a b n c : Nat) (p s : Int) (A : Option Addr) (w : World) :
    Calls Try.prog 64 #[.pointer none, .agg #[.int .u64 r, .int .u64 a, .int .u64 b, .int .i64 p, .int .i64 s, .slice A n c]] w fun e w' => e = .returned (.tuple #[.int .i64 0, .int .i64 15]) ∧ Below w.heap.size w w' := by
  go_enter Try.func64, Try.ntmps64
  go_wp2_with fail
  go_ret2
  exact ⟨rfl, bel_alloc _ _⟩
theorem rins_form (R r a b n c : Nat) (p s : Int) (A : Option Addr) (w : World) (h : tuOk r a b p s n = false) :
    Calls Try.prog 64 #[.pointer (some ⟨R, 0, none⟩), .agg #[.int .u64 r, .int .u64 a, .int .u64 b, .int .i64 p, .int .i64 s, .slice A n c]] w fun e w' => e = .returned (.tuple #[.int .i64 0, .int .i64 3]) ∧ Below w.heap.size w w' := by
  have CR := Lib.hid (rright_any r a b p s A n c (w.alloc (.cells #[.int .u64 r, .int .u64 a, .int .u64 b, .int .i64 p, .int .i64 s, .slice A n c] 33)))
  rw [h] at CR
  clear h
  go_enter Try.func64, Try.ntmps64
  go_wp2_with fail
  refine CR.out.mono ?_
  rintro e w2 ⟨rfl, hb⟩
  have HB := Lib.hid (bel_trans (bel_alloc _ _) hb)
  clear hb
  go_wp2_with fail
  go_ret2
  exact ⟨rfl, HB.out⟩
end Go.Proofs.Ythghnhcopmmmpaa.Mem
/- lapidaryref05.Insert: what holds between its steps. -/
namespace Go.Proofs.Ythghnhcopmmmpaa.Mem
open Go.RowKit Go.Proofs.Ythghnhcopmmmpaa.Nums
set_option linter.unusedVariables false
set_option linter.unusedSimpArgs false
set_option maxRecDepth 100000
set_option maxHeartbeats 200000
structure RIn (w wr : World) (F : Nat → Prop) (b0 R : Nat) (E : List Ent) (st : Nat) (A : Option Addr) (c : Nat) (box : Array Value) (u : Value) (d : List UInt8) : Prop where
  rf : RfA wr (fun g => F g ∨ (b0 ≤ g ∧ g < wr.heap.size)) R E st A c
  box : Blk wr b0 33 box
  dat : OwnB wr (b0 + 1) u d.length (u8s d)
  tur : Turn F w wr
  ge : w.heap.size = b0
section
variable {w wr w' : World} {F : Nat → Prop} {b0 R st c : Nat} {E : List Ent} {A : Option Addr} {box : Array Value} {u : Value} {d : List UInt8}
theorem RIn.step (h : RIn w wr F b0 R E st A c box u d) {x : Nat} {t : TypeId} {cs : Array Value} {E' : List Ent} {st' : Nat} (ho : Only x wr w') (hx : Blk wr x t cs) (h1 : 33 ≠ t) (h2 : 5 ≠ t) (hF : F x ∨ (b0 ≤ x ∧ x < wr.heap.size)) (hr : RfA w' (fun g => F g ∨ (b0 ≤ g ∧ g < wr.heap.size)) R E' st' A c) :
    RIn w w' F b0 R E' st' A c box u d := by
  refine ⟨hr.more (fun g hg => hg.imp id fun k => ⟨k.1, Nat.lt_of_lt_of_le k.2 ho.size⟩) (fun g hg => ?_), ho.blk h.box (Blk.ne_ h.box hx h1), own_keep h.dat fun g hg => ho.block g (h.dat.lt g hg).2 (fun e => own_blk_ne h.dat hx h2 (by rw [hg, e])), ⟨ho.os.trans h.tur.os, ho.tape.trans h.tur.tape, ho.output.trans h.tur.output, Nat.le_trans h.tur.size ho.size, fun k hk hn => ?_⟩, h.ge⟩
  · rcases hg with hg | hg
    · exact Nat.lt_of_lt_of_le (h.rf.lt g (.inl hg)) ho.size
    · exact hg.2
  · rw [ho.block k (Nat.lt_of_lt_of_le hk h.tur.size) (fun e => ?_)]
    · exact h.tur.block k hk hn
    · subst e
      rcases hF with hF | hF
      · exact hn hF
      · have := h.ge; omega
theorem RIn.below (h : RIn w wr F b0 R E st A c box u d) (hb : Below wr.heap.size wr w') : RIn w w' F b0 R E st A c box u d := by
  refine ⟨(h.rf.below hb).more (fun g hg => hg.imp id fun k => ⟨k.1, Nat.lt_of_lt_of_le k.2 hb.size⟩) (fun g hg => ?_), Blk.below h.box hb (Blk.lt h.box), own_keep h.dat fun g hg => hb.block g (h.dat.lt g hg).2, h.tur.trans (Turn.of_below hb), h.ge⟩
  rcases hg with hg | hg
  · exact Nat.lt_of_lt_of_le (h.rf.lt g (.inl hg)) hb.size
  · exact hg.2
theorem RIn.drewN (h : RIn w wr F b0 R E st A c box u d) (n : Nat) : RIn w (wr.drewN n) F b0 R E st A c box u d := h.below ⟨rfl, rfl, rfl, Nat.le_refl _, fun _ _ => rfl⟩
theorem RIn.drew (h : RIn w wr F b0 R E st A c box u d) : RIn w wr.drew F b0 R E st A c box u d := h.below ⟨rfl, rfl, rfl, Nat.le_refl _, fun _ _ => rfl⟩
theorem RIn.setSt (h : RIn w wr F b0 R E st A c box u d) (n : Nat) : RIn w (wr.setCell ⟨R, 1, none⟩ (.int .i64 n)) F b0 R E n A c box u d :=
  h.step ((Only.refl R wr).set_ _ _) h.rf.blk (by decide) (by decide) h.rf.fr (h.rf.setSt n)
theorem RIn.put (h : RIn w wr F b0 R E st A c box u d) {i g f n : Nat} {v : Ver} {y : Value} (he : E[i]? = some (some (v, f), y)) (hA : A = some ⟨g, 0, none⟩) : RIn w (wr.setCell ⟨g, i * 8 + 7, none⟩ (.int .i64 n)) F b0 R (E.set i (some (v, n), y)) st A c box u d := by
  have hi := (List.getElem?_eq_some_iff.1 he).1
  obtain ⟨g', cur, hA', hg, _, _, hFg⟩ := h.rf.arr hi
  rw [hA] at hA'
  injection hA' with hA'; injection hA' with hA'
  subst hA'
  refine h.step ((Only.refl g wr).set_ _ _) hg (by decide) (by decide) hFg (h.rf.put he hA (j := 7) (by omega) rfl fun v' f' u' hh => ?_)
  injection hh with h1 h2
  injection h1 with h1
  injection h1 with h1 h3
  subst h1 h2 h3
  exact h.rf.data i v f y he
theorem RIn.putE (h : RIn w wr F b0 R E st A c box u d) {i g n : Nat} {v : Ver} {e' : Ent} (hi : i < E.length) (hA : A = some ⟨g, 0, none⟩) (hv : v.d = d) (he : e' = (some (v, n), u)) : RIn w (putN wr g (i * 8) (entV e')) F b0 R (E.set i e') st A c box u d := by
  have hd0 : OwnB wr 0 u v.d.length (u8s v.d) := by
    rw [hv]
    exact own_mono h.dat (Nat.zero_le _)
  have hdF : ∀ k, u.ownBlock = some k → (F k ∨ (b0 ≤ k ∧ k < wr.heap.size)) := fun k hk => .inr ⟨by have := (h.dat.lt k hk).1; omega, (h.dat.lt k hk).2⟩
  have hr := h.rf.putE (e' := e') hi hA (fun v' f' u' hh => by
    rw [he] at hh
    have h1 : v' = v := by
      have := congrArg Prod.fst hh
      injection this with this
      exact (congrArg Prod.fst this).symm
    have h2 : u' = u := (congrArg Prod.snd hh).symm
    rw [h1, h2]
    exact ⟨hd0, hdF⟩)
  obtain ⟨g', cur, hA', hg, _, _, hFg⟩ := h.rf.arr hi
  rw [hA] at hA'
  injection hA' with hA'; injection hA' with hA'
  subst hA'
  exact h.step (putN_only g _ _ _) hg (by decide) (by decide) hFg hr
end
theorem RIn.grow {w wr w' : World} {F : Nat → Prop} {b0 R st c : Nat} {E : List Ent} {A : Option Addr} {box : Array Value} {u : Value} {d : List UInt8} (h : RIn w wr F b0 R E st A c box u d) {A' : Option Addr} {c' : Nat} {e : Ent} (he : ∀ (v : Ver) (f : Nat) (u : Value), e ≠ (some (v, f), u)) (hown : w'.ownsRow 0 122 8 (.slice A' (E.length + 1) c') (E.length + 1) (ents E ++ ents [e])) (hk : Kin wr w' (.slice A E.length c) (.slice A' (E.length + 1) c')) :
    RIn w (w'.setCell ⟨R, 0, none⟩ (.slice A' (E.length + 1) c')) F b0 R (E ++ [e]) st A' c' box u d := by
  have hb0 : b0 < wr.heap.size := Blk.lt h.box
  have ho : Only R w' (w'.setCell ⟨R, 0, none⟩ (.slice A' (E.length + 1) c')) := (Only.refl R w').set_ _ _
  have hsz : wr.heap.size ≤ (w'.setCell ⟨R, 0, none⟩ (.slice A' (E.length + 1) c')).heap.size := Nat.le_trans hk.1.size ho.size
  have hsw : (w'.setCell ⟨R, 0, none⟩ (.slice A' (E.length + 1) c')).heap.size = w'.heap.size := by simp [World.setCell]
  have old : ∀ k, k < wr.heap.size → k ≠ R → (Value.slice A E.length c).ownBlock ≠ some k → (w'.setCell ⟨R, 0, none⟩ (.slice A' (E.length + 1) c')).heap[k]? = wr.heap[k]? := fun k h1 h2 h3 => (ho.block k (Nat.lt_of_lt_of_le h1 hk.1.size) h2).trans (hk.1.block k h1 h3.symm)
  refine ⟨(h.rf.grow he hown hk).more (fun g hg => ?_) (fun g hg => ?_), ?_, ?_, ⟨ho.os.trans (hk.1.os.trans h.tur.os), ho.tape.trans (hk.1.tape.trans h.tur.tape), ho.output.trans (hk.1.output.trans h.tur.output), Nat.le_trans h.tur.size hsz, fun k h1 h2 => ?_⟩, h.ge⟩
  · rcases hg with (hg | hg) | hg
    · exact .inl hg
    · exact .inr ⟨hg.1, Nat.lt_of_lt_of_le hg.2 hsz⟩
    · exact .inr ⟨by omega, by omega⟩
  · rcases hg with hg | hg
    · exact Nat.lt_of_lt_of_le (h.rf.lt g (.inl hg)) hsz
    · exact hg.2
  · exact (old b0 hb0 (Blk.ne_ h.box h.rf.blk (by decide)) (own_blk_ne h.rf.own h.box (by decide))).trans h.box
  · refine own_keep h.dat fun k hk2 => ?_
    have hkl := (h.dat.lt k hk2).2
    refine old k hkl (fun e => own_blk_ne h.dat h.rf.blk (by decide) (by rw [hk2, e])) fun hv => ?_
    rcases h.rf.own.2 with ⟨q1, _⟩ | ⟨g, cap, cur, q1, _, q3, _⟩
    · rw [q1] at hv; simp [Value.ownBlock] at hv
    · rw [q1] at hv
      have hv' : g = k := by simpa [Value.ownBlock] using hv
      subst hv'
      exact own_blk_ne h.dat q3 (by decide) hk2
  · have hkw : k < wr.heap.size := Nat.lt_of_lt_of_le h1 h.tur.size
    have hge := h.ge
    have nF : ∀ g, (F g ∨ (b0 ≤ g ∧ g < wr.heap.size)) → k ≠ g := fun g hg e => by
      subst e
      rcases hg with hg | hg
      · exact h2 hg
      · omega
    rw [old k hkw (nF R h.rf.fr) (fun hv => nF k (h.rf.fown k hv) rfl)]
    exact h.tur.block k h1 h2
/-- what Insert makes of the slots -/
theorem ins_eq {L L1 : SL} {st q M : Nat} {v : Ver} (hq : nextL L = q) (hqL : q ≤ L.length) (hL1 : (q < L.length ∧ L1 = L) ∨ (q = L.length ∧ L1 = L ++ [none])) (hM : max L.length (q + 1) = M) :
    L1.length = M ∧ tot L1 = tot L ∧ (st < v.sz + (4 + 4 * M) → insS L st v = ((packL L1).set q (some (v, 512 - tot L - v.sz)), 512 - tot L - v.sz)) ∧ (¬ st < v.sz + (4 + 4 * M) → insS L st v = (L1.set q (some (v, st - v.sz)), st - v.sz)) := by
  rcases hL1 with ⟨h1, rfl⟩ | ⟨h1, rfl⟩
  · refine ⟨by omega, rfl, fun h => ?_, fun h => ?_⟩
    · unfold insS
      rw [hq, hM, if_pos h]
      unfold putL
      rw [packL_len, if_pos h1]
    · unfold insS
      rw [hq, hM, if_neg h]
      unfold putL
      rw [if_pos h1]
  · refine ⟨by rw [List.length_append]; simp; omega, tot_app_none L, fun h => ?_, fun h => ?_⟩
    · unfold insS
      rw [hq, hM, if_pos h]
      unfold putL
      rw [packL_len, if_neg (by omega), packL_app_none, List.set_append_right _ _ (by rw [packL_len]; omega), packL_len, h1, Nat.sub_self]
      rfl
    · unfold insS
      rw [hq, hM, if_neg h]
      unfold putL
      rw [if_neg (by omega), List.set_append_right _ _ (by omega), h1, Nat.sub_self]
      rfl
end Go.Proofs.Ythghnhcopmmmpaa.Mem
