/- lapidarylaw05.do. -/
import Derived.Test.YtbpgjpopmohbmaaDoA
import Derived.Deep.RegionHeld3
import Derived.Deep.CutRange
namespace Go.Proofs.Ytbpgjpopmohbmaa.Mem
open Go.RowKit Go.Proofs.Ytbpgjpopmohbmaa.Nums
set_option linter.unusedVariables false
set_option linter.unusedSimpArgs false
set_option maxRecDepth 100000
set_option maxHeartbeats 4000000
theorem sl_own {w : World} {B n c : Nat} {e : TypeId} {A : Option Addr} {xs : List Value} (h : w.ownsRow B e 1 (.slice A n c) n xs) : Sl w w.heap.size 1 A n c xs := by
  obtain ⟨A', c', hv, hs⟩ := Sl.of_own h
  injection hv with h1 _ h3
  subst h1 h3
  exact hs
theorem Hp.drew {w : World} {P : Nat} {L : SL} {st : Nat} (h : Hp w P L st) : Hp w.drew P L st := h
theorem Turn.cell {F : Nat → Prop} {w w' : World} (h : Turn F w w') {p : Addr} {v : Value} (hp : p.block < w.heap.size) (hn : ¬ F p.block) (hc : w.cell? p = some v) : w'.cell? p = some v := by
  have hb := h.block p.block hp hn
  rw [← hc]
  unfold World.cell?
  rw [hb]
theorem Duo.two {w w3 w4 w5 : World} {P R st' c : Nat} {L' : SL} {F F' : Nat → Prop} {E : List Ent} {A : Option Addr} (hbel : Below w.heap.size w w3) (hp4 : Hp w4 P L' st') (ho4 : Only P w3 w4) (hE : E.map Prod.fst = L') (hr5 : RfA w5 F' R E st' A c) (ht5 : Turn F w4 w5) (hFP : ¬ F P) (hFP' : ¬ F' P) (hFB : ∀ g, F g → w.heap.size ≤ g) (hFB' : ∀ g, F' g → w.heap.size ≤ g) (hwP : w.heap.size ≤ P) : Duo w w5 P R L' st' :=
  ⟨hp4.keep (ht5.block P hp4.lt hFP), ⟨F', E, A, c, hE, hr5, hFP', hFB'⟩, hwP, (hbel.trans (ho4.below hbel.size hwP)).trans (ht5.below (Nat.le_trans hbel.size ho4.size) hFB)⟩
section
variable {w wr : World} {P R st n c0 : Nat} {L : SL} {A0 : Option Addr}
theorem do_ins (h : Duo w wr P R L st) (z i : Int) (r a b : Nat) (p s : Int) (x : List UInt8) (hx : x.length = n) (hs : Sl wr wr.heap.size 1 A0 n c0 (u8s x)) (hr : r < 18446744073709551616) (ha : a < 18446744073709551616) (hb : b < 18446744073709551616) (hz : 0 ≤ z ∧ z ≤ 255) (h4 : ¬ z % 8 = 4) (h5 : ¬ z % 8 = 5) (h6 : ¬ z % 8 = 6) (h7 : ¬ z % 8 = 7) :
    Calls Try.prog 17 #[.pointer (some ⟨P, 0, none⟩), .pointer (some ⟨R, 0, none⟩), .agg #[.int .u8 z, .int .i64 i, .int .u64 r, .int .u64 a, .int .u64 b, .int .i64 p, .int .i64 s, .slice A0 n c0]] wr fun e w' => e = .returned (.tuple #[.pointer (some ⟨P, 0, none⟩), .bool true]) ∧ ∃ L' st', Duo w w' P R L' st' := by
  have HD := Lib.hid h
  have HS := Lib.hid hs
  obtain ⟨b0, hb0⟩ : ∃ b0, wr.heap.size = b0 := ⟨_, rfl⟩
  obtain ⟨W1, hW1⟩ : ∃ W1, wr.alloc (.cells #[.int .u8 z, .int .i64 i, .int .u64 r, .int .u64 a, .int .u64 b, .int .i64 p, .int .i64 s, .slice A0 n c0] 35) = W1 := ⟨_, rfl⟩
  have HO1 : Hid (Blk W1 b0 35 #[.int .u8 z, .int .i64 i, .int .u64 r, .int .u64 a, .int .u64 b, .int .i64 p, .int .i64 s, .slice A0 n c0]) := Lib.hid (by rw [← hW1, ← hb0]; exact Blk.new wr _ _)
  have HB1 : Hid (Below b0 wr W1) := Lib.hid (by rw [← hW1, ← hb0]; exact bel_alloc _ _)
  have HW1 := Lib.hid hW1
  have HBZ := Lib.hid hb0
  obtain ⟨d, hd⟩ : ∃ d, x.take 230 = d := ⟨_, rfl⟩
  obtain ⟨m, hm⟩ : ∃ m, min n 230 = m := ⟨_, rfl⟩
  have HDL : Hid (d.length = m) := Lib.hid (by rw [← hd, ← hm, List.length_take, hx]; omega)
  have hm230 : m ≤ 230 := by omega
  have HF : Hid (∀ w0, Sl w0 w0.heap.size 1 A0 n c0 (u8s x) → Calls Try.prog 37 #[.agg #[.int .u64 r, .int .u64 a, .int .u64 b, .int .i64 p, .int .i64 s, .slice A0 n c0]] w0 fun e w' => ∃ v, e = .returned (.agg #[.int .u64 r, .int .u64 a, .int .u64 b, .int .i64 p, .int .i64 s, v]) ∧ OwnB w' w0.heap.size v m (u8s d) ∧ Below w0.heap.size w0 w') := Lib.hid (fun w0 h0 => by have := few_any r a b p s A0 n c0 x w0 h0; rwa [hm, hd] at this)
  clear h hs hW1 hd hm
  go_enter Try.func17, Try.ntmps17
  go_wp2_with fail
  rw [HW1.out]
  refine (HF.out _ (HS.out.on (by rw [HBZ.out]; exact HB1.out))).mono ?_
  rintro e w2 ⟨v, rfl, hov, hb2⟩
  obtain ⟨Au, cu, rfl, _⟩ := Sl.of_own hov
  have hb1s : b0 ≤ W1.heap.size := Nat.le_of_lt (Blk.lt HO1.out)
  obtain ⟨T8, hT8⟩ : ∃ T8, w2.heap.size = T8 := ⟨_, rfl⟩
  obtain ⟨w3, hw3⟩ : ∃ w3, w2.alloc (.cells #[.int .u64 r, .int .u64 a, .int .u64 b, .int .i64 p, .int .i64 s, .slice Au m cu] 33) = w3 := ⟨_, rfl⟩
  have hb3 : Below W1.heap.size W1 w3 := by rw [← hw3]; exact bel_trans hb2 (bel_alloc _ _)
  have HO3 := Lib.hid (Blk.below HO1.out hb3 (Blk.lt HO1.out))
  have HT3 : Hid (Blk w3 T8 33 #[.int .u64 r, .int .u64 a, .int .u64 b, .int .i64 p, .int .i64 s, .slice Au m cu]) := Lib.hid (by rw [← hw3, ← hT8]; exact Blk.new w2 _ _)
  have HU3 : Hid (OwnB w3 b0 (.slice Au m cu) m (u8s d)) := Lib.hid (by rw [← hw3]; exact own_mono (World.ownsRow.alloc hov _) hb1s)
  have HB3 : Hid (Below b0 wr w3) := Lib.hid (HB1.out.trans (hb3.mono hb1s))
  have HD3 := Lib.hid (HD.out.below (by rw [HBZ.out]; exact HB3.out))
  have HW3 : Hid (w2.alloc (.cells #[.int .u64 r, .int .u64 a, .int .u64 b, .int .i64 p, .int .i64 s, .slice Au m cu] 33) = w3 ∧ w2.heap.size = T8 ∧ b0 ≤ T8) := Lib.hid ⟨hw3, hT8, by rw [← hT8]; exact Nat.le_trans hb1s hb2.size⟩
  clear hov hb2 hb1s hT8 hw3 hb3
  go_upto_region 2 with fail
  rw [HW3.out.1, HW3.out.2.1]
  have o0 := HO3.out.cell 0
  have o1 := HO3.out.cell 1
  obtain ⟨hHp, ⟨F, E, A, c, hE, hR, hFP, hFB⟩, hwP, hbel⟩ := HD.out
  have hbP : b0 ≠ P := by have := hHp.lt; have := HBZ.out; omega
  have hFb : ¬ F b0 := fun hg => by have := hR.lt b0 hg; have := HBZ.out; omega
  have hTb : b0 ≤ T8 := HW3.out.2.2
  have hTP : T8 ≠ P := by have := hHp.lt; have := HBZ.out; omega
  have hFT : ¬ F T8 := fun hg => by have := hR.lt T8 hg; have := HBZ.out; omega
  have hlb := Blk.lt HO3.out
  have hlT := Blk.lt HT3.out
  have hbelw : Below wr.heap.size wr w3 → Below w.heap.size w w3 := fun k => hbel.trans (k.mono hbel.size)
  have HFL : Hid (∀ g, F g → g < b0) := Lib.hid (fun g hg => by have := hR.lt g hg; have := HBZ.out; omega)
  have HBW := Lib.hid (hbelw (by rw [HBZ.out]; exact HB3.out))
  have HH := Lib.hid (And.intro (hHp.below (by rw [HBZ.out]; exact HB3.out) hHp.lt) (And.intro (hR.below (by rw [HBZ.out]; exact HB3.out)) (And.intro hFP (And.intro hFB (And.intro hwP hbel)))))
  have o2 := HO3.out.cell 2
  have o3 := HO3.out.cell 3
  have o4 := HO3.out.cell 4
  have o5 := HO3.out.cell 5
  have o6 := HO3.out.cell 6
  have o7 := HO3.out.cell 7
  have hsm := hHp.small
  obtain ⟨y, hy⟩ : ∃ y, insR L st r a b p s d = y := ⟨_, rfl⟩
  obtain ⟨qr, xr, L', st'⟩ := y
  have HCP : Hid (∀ w0 A1 c1, Hp w0 P L st → Sl w0 w0.heap.size 1 A1 m c1 (u8s d) → Calls Try.prog 34 #[.pointer (some ⟨P, 0, none⟩), .agg #[.int .u64 r, .int .u64 a, .int .u64 b, .int .i64 p, .int .i64 s, .slice A1 m c1]] w0 fun e w' => e = .returned (.tuple #[.int .i64 qr, .int .i64 xr]) ∧ Hp w' P L' st' ∧ Only P w0 w') := Lib.hid (fun w0 A1 c1 h0 h1 => by have := insP h0 r a b p s d HDL.out h1; rwa [hy] at this)
  have HCR : Hid (∀ w0 A1 c1, RfA w0 F R E st A c → Sl w0 w0.heap.size 1 A1 m c1 (u8s d) → Calls Try.prog 64 #[.pointer (some ⟨R, 0, none⟩), .agg #[.int .u64 r, .int .u64 a, .int .u64 b, .int .i64 p, .int .i64 s, .slice A1 m c1]] w0 fun e w' => e = .returned (.tuple #[.int .i64 qr, .int .i64 xr]) ∧ (∃ E' A' c', E'.map Prod.fst = L' ∧ RfA w' (fun g => F g ∨ (w0.heap.size ≤ g ∧ g < w'.heap.size)) R E' st' A' c') ∧ Turn F w0 w') := Lib.hid (fun w0 A1 c1 h0 h1 => by have := insF h0 hE hsm.1 hsm.2.1 hsm.2.2 r a b p s d HDL.out h1; rwa [hy] at this)
  have e4 : (z % 8 == 4) = false := beq_eq_false_iff_ne.2 h4
  have e5 : (z % 8 == 5) = false := beq_eq_false_iff_ne.2 h5
  have e6 : (z % 8 == 6) = false := beq_eq_false_iff_ne.2 h6
  have e7 : (z % 8 == 7) = false := beq_eq_false_iff_ne.2 h7
  clear hy hHp hR hFP hFB hwP hbel hE hsm
  go_wp2_with fail
  clear o0 o1 o2 o3 o4 o5 o6 o7
  refine (HF.out _ (HS.out.on (by rw [HBZ.out]; exact HB3.out))).mono ?_
  rintro e w4 ⟨v, rfl, hov, hb4⟩
  obtain ⟨Am, cm, rfl, _⟩ := Sl.of_own hov
  obtain ⟨TM, hTM⟩ : ∃ TM, w4.heap.size = TM := ⟨_, rfl⟩
  obtain ⟨w5, hw5⟩ : ∃ w5, w4.alloc (.cells #[.int .u64 r, .int .u64 a, .int .u64 b, .int .i64 p, .int .i64 s, .slice Am m cm] 33) = w5 := ⟨_, rfl⟩
  have hb5 : Below w3.heap.size w3 w5 := by rw [← hw5]; exact bel_trans hb4 (bel_alloc _ _)
  have HM5 : Hid (Blk w5 TM 33 #[.int .u64 r, .int .u64 a, .int .u64 b, .int .i64 p, .int .i64 s, .slice Am m cm]) := Lib.hid (by rw [← hw5, ← hTM]; exact Blk.new w4 _ _)
  have HT5 := Lib.hid (Blk.below HT3.out hb5 hlT)
  have HN5 : Hid (w5.ownsRow w3.heap.size 5 1 (.slice Am m cm) m (u8s d)) := Lib.hid (by rw [← hw5]; exact World.ownsRow.alloc hov _)
  have HU5 : Hid (OwnB w5 b0 (.slice Au m cu) m (u8s d)) := Lib.hid (own_keep HU3.out (fun k hk => hb5.block k (HU3.out.lt k hk).2))
  have HUL : Hid (∀ k, (Value.slice Au m cu).ownBlock = some k → k < w3.heap.size) := Lib.hid (fun k hk => (HU3.out.lt k hk).2)
  have hP5 : Hp w5 P L st := HH.out.1.below hb5 HH.out.1.lt
  have hR5 : RfA w5 F R E st A c := HH.out.2.1.below hb5
  have hlM : TM < w5.heap.size := Blk.lt HM5.out
  have hTMb : w3.heap.size ≤ TM := by rw [← hTM]; exact hb4.size
  have hMP : TM ≠ P := by have := HH.out.1.lt; omega
  have hFM : ¬ F TM := fun hg => by have := HH.out.2.1.lt TM hg; omega
  have HW5 := Lib.hid hw5
  have hTM2 := Lib.hid hTM
  clear hov hb4 hw5 hTM
  go_upto_region 14 with fail
  rw [HW5.out, hTM2.out]
  have x0 := HM5.out.cell 0
  have x1 := HM5.out.cell 1
  have x2 := HM5.out.cell 2
  have x3 := HM5.out.cell 3
  have x4 := HM5.out.cell 4
  have x5 := HM5.out.cell 5
  go_wp2_with fail
  clear x0 x1 x2 x3 x4 x5
  refine (HCP.out _ Am cm hP5 (sl_own HN5.out)).mono ?_
  rintro e w6 ⟨rfl, hp6, ho6⟩
  have HT6 := Lib.hid (ho6.blk HT5.out hTP)
  have HM6 := Lib.hid (ho6.blk HM5.out hMP)
  have hPown : ∀ (B : Nat) (u : Value), w5.ownsRow B 5 1 u m (u8s d) → w6.ownsRow B 5 1 u m (u8s d) := fun B u hu => own_keep hu fun k hk => ho6.block k (hu.lt k hk).2 (fun e => by obtain ⟨X, hpx, _⟩ := hP5; exact own_blk_ne hu hpx.1 (by decide) (by rw [hk, e]))
  have HN6 := Lib.hid (hPown _ _ HN5.out)
  have HU6 := Lib.hid (hPown _ _ HU5.out)
  have hR6 := hR5.only ho6 HH.out.2.2.1
  have x0 := HT6.out.cell 0
  have x1 := HT6.out.cell 1
  have x2 := HT6.out.cell 2
  have x3 := HT6.out.cell 3
  have x4 := HT6.out.cell 4
  have x5 := HT6.out.cell 5
  go_wp2_with fail
  clear x0 x1 x2 x3 x4 x5
  refine (HCR.out _ Au cu hR6 (sl_own HU6.out)).mono ?_
  rintro e w7 ⟨rfl, ⟨E7, A7, c7, hE7, hr7⟩, ht7⟩
  have HT7 : Hid (Blk w7 T8 33 #[.int .u64 r, .int .u64 a, .int .u64 b, .int .i64 p, .int .i64 s, .slice Au m cu]) := Lib.hid ((ht7.block T8 (Blk.lt HT6.out) hFT).trans HT6.out)
  have HM7 : Hid (Blk w7 TM 33 #[.int .u64 r, .int .u64 a, .int .u64 b, .int .i64 p, .int .i64 s, .slice Am m cm]) := Lib.hid ((ht7.block TM (Blk.lt HM6.out) hFM).trans HM6.out)
  have hs56 : w5.heap.size ≤ w6.heap.size := ho6.size
  have hs35 : w3.heap.size ≤ w5.heap.size := hb5.size
  have hFlt : ∀ g, F g → g < b0 := by
    intro g hg
    exact HFL.out g hg
  have HN7 : Hid (w7.ownsRow w3.heap.size 5 1 (.slice Am m cm) m (u8s d)) := Lib.hid (own_keep HN6.out fun k hk => ht7.block k (HN6.out.lt k hk).2 (fun hg => by have h1 := (HN6.out.lt k hk).1; have h2 := hFlt k hg; have := HB3.out.size; have := HBZ.out; omega))
  have HU7 : Hid (w7.ownsRow b0 5 1 (.slice Au m cu) m (u8s d)) := Lib.hid (own_keep HU6.out fun k hk => ht7.block k (HU6.out.lt k hk).2 (fun hg => by have h1 := (HU6.out.lt k hk).1; have h2 := hFlt k hg; omega))
  have HD7 : Hid (Duo w w7 P R L' st') := Lib.hid (Duo.two (w3 := w5) (HBW.out.trans (hb5.mono (by have := HBW.out.size; omega))) hp6 ho6 hE7 hr7 ht7 HH.out.2.2.1 (fun hg => hg.elim HH.out.2.2.1 (fun k => by have := hp6.lt; omega)) HH.out.2.2.2.1 (fun g hg => hg.elim (HH.out.2.2.2.1 g) (fun k => by have := HBW.out.size; omega)) HH.out.2.2.2.2.1)
  have HFM7 : Hid (∀ k, (Value.slice Am m cm).ownBlock = some k → w.heap.size ≤ k ∧ k ≠ P ∧ ¬ (F k ∨ (w6.heap.size ≤ k ∧ k < w7.heap.size))) := Lib.hid (fun k hk => by
    have h1 := (HN6.out.lt k hk)
    have h2 := (HN5.out.lt k hk)
    have := HBW.out.size
    have := HH.out.1.lt
    refine ⟨by omega, by omega, fun hg => ?_⟩
    rcases hg with hg | hg
    · have := hFlt k hg; have := HB3.out.size; have := HBZ.out; omega
    · omega)
  have HR7 := Lib.hid hr7
  have HPLT : Hid (P < w6.heap.size) := Lib.hid hp6.lt
  have HSZ : Hid (w3.heap.size ≤ w6.heap.size) := Lib.hid (Nat.le_trans hs35 hs56)
  have HP7 : Hid (Hp w7 P L' st') := Lib.hid HD7.out.1
  have HE7 := Lib.hid hE7
  clear hr7 hE7 ht7 hp6 ho6 hR6 hPown hP5 hR5 hs56 hs35 hFlt
  have x0 := HM7.out.cell 0
  have x1 := HM7.out.cell 1
  have x2 := HM7.out.cell 2
  have x3 := HM7.out.cell 3
  have x4 := HM7.out.cell 4
  have x5 := HM7.out.cell 5
  have y0 := HT7.out.cell 0
  have y1 := HT7.out.cell 1
  have y2 := HT7.out.cell 2
  have y3 := HT7.out.cell 3
  have y4 := HT7.out.cell 4
  have y5 := HT7.out.cell 5
  go_wp2_with fail
  clear x0 x1 x2 x3 x4 x5 y0 y1 y2 y3 y4 y5
  refine (samet_yes r a b p s Am Au m cm m cu d w7 (sl_own HN7.out) (sl_own HU7.out)).mono ?_
  rintro e w8 ⟨rfl, hb8⟩
  have HM8 := Lib.hid (Blk.below HM7.out hb8 (Blk.lt HM7.out))
  have HN8 : Hid (w8.ownsRow w3.heap.size 5 1 (.slice Am m cm) m (u8s d)) := Lib.hid (own_keep HN7.out fun k hk => hb8.block k (HN7.out.lt k hk).2)
  have HR8 := Lib.hid (HR7.out.below hb8)
  have HP8 := Lib.hid (HP7.out.below hb8 HP7.out.lt)
  have HB8 : Hid (Below w.heap.size w w8) := Lib.hid (HD7.out.2.2.2.trans (hb8.mono HD7.out.2.2.2.size))
  have HFIN : Hid (∀ (wl : World) (g : Nat), (Value.slice Am m cm).ownBlock = some g → Only g w8 wl → Duo w wl P R L' st') := Lib.hid (fun wl g hg ho => by
    obtain ⟨q1, q2, q3⟩ := HFM7.out g hg
    exact ⟨HP8.out.only ho (Ne.symm q2), ⟨_, E7, A7, c7, HE7.out, HR8.out.only ho q3, (fun hh => hh.elim HH.out.2.2.1 (fun k => by have := HPLT.out; omega)), (fun k hk => hk.elim (HH.out.2.2.2.1 k) (fun k => by have := HBW.out.size; have := HSZ.out; omega))⟩, HH.out.2.2.2.2.1, HB8.out.trans (ho.below HB8.out.size q1)⟩)
  have HFIN0 : Hid (Duo w w8 P R L' st') := Lib.hid (HD7.out.below hb8)
  clear hb8
  have x5 := HM8.out.cell 5
  go_wp2_with fail
  obtain ⟨G, hG⟩ : ∃ G, 0 < m → (Am = some ⟨G, 0, none⟩ ∧ m ≤ cm ∧ (Value.slice Am m cm).ownBlock = some G ∧ ∃ cur, Blk w8 G 5 cur ∧ ∀ j y, j < m → (u8s d)[j]? = some y → cur[j]? = some y) := by
    rcases HN8.out.2 with ⟨hv, hm0⟩ | ⟨g, cap, cur, hv, hbg, hg, hnc, hcm, hcs, htake⟩
    · exact ⟨0, fun h => absurd h (by omega)⟩
    · refine ⟨g, fun h => ?_⟩
      injection hv with q1 _ q3
      subst q1 q3
      refine ⟨rfl, hnc, rfl, cur, hg, fun j y hj hy => ?_⟩
      rw [← htake, List.getElem?_take, if_pos (by omega), Array.getElem?_toList] at hy
      exact hy
  have HG := Lib.hid hG
  clear hG x5
  go_loopw [106] (fun i wl => ∃ k : Nat, k ≤ m ∧ i = .int .i64 k ∧ Only G w8 wl ∧ (m = 0 → wl = w8) ∧ (0 < m → ∃ cur, Blk wl G 5 cur ∧ ∀ j y, k ≤ j → j < m → (u8s d)[j]? = some y → cur[j]? = some y)) (fun i _ => m - (intOf i).toNat)
  case atStart => exact ⟨0, by omega, rfl, Only.refl _ _, fun _ => rfl, fun h => by obtain ⟨_, _, _, cur, h1, h2⟩ := HG.out h; exact ⟨cur, h1, fun j y _ hj hy => h2 j y hj hy⟩⟩
  case round =>
    obtain ⟨k, hk, rfl, ho, hz0, hcur⟩ := hrel
    have HO := Lib.hid ho
    have HZ0 := Lib.hid hz0
    have HCUR := Lib.hid hcur
    clear ho hz0 hcur
    by_cases hlt : k < m
    · have hlt' : (k : Int) < m := by omega
      have hm0 : 0 < m := by omega
      obtain ⟨hA, hmc, hown, _, hb0G, _⟩ := HG.out hm0
      obtain ⟨cur, hbl, hcells⟩ := HCUR.out hm0
      obtain ⟨y, hy⟩ : ∃ y, d[k]? = some y := ⟨_, List.getElem?_eq_getElem (by rw [HDL.out]; exact hlt)⟩
      have hck := hcells k _ (Nat.le_refl _) hlt (u8s_get hy)
      have y0 := hbl.cell k
      rw [hck] at y0
      have z0 := hbl.frozen k
      have hne := Blk.ne_ HM8.out hb0G (by decide)
      have HML := Lib.hid (HO.out.blk HM8.out hne)
      have x5 := HML.out.cell 5
      have hk0 : (0 : Int) ≤ k := by omega
      have HS2 : Hid (∀ v, Blk (wr.setCell ⟨G, k, none⟩ v) G 5 (cur.setIfInBounds k v)) := Lib.hid (fun v => Blk.set_ hbl k v)
      have HCC := Lib.hid hcells
      subst hA
      clear hck hy hbl hcells
      go_wp2_with fail
      go_roundw
      case rel =>
        refine ⟨k + 1, by omega, by go_num, HO.out.set_ _ _, fun h => absurd h (by omega), fun _ => ⟨_, HS2.out _, fun j y hj hjm hy => ?_⟩⟩
        rw [Array.getElem?_setIfInBounds, if_neg (by omega)]
        exact HCC.out j y (by omega) hjm hy
      case measure => simp [intOf]; omega
    · obtain rfl : k = m := by omega
      go_wp2_with fail
      go_ret2
      refine ⟨rfl, L', st', ?_⟩
      by_cases hm0 : k = 0
      · rw [HZ0.out hm0]; exact HFIN0.out
      · obtain ⟨_, _, hown, _⟩ := HG.out (by omega)
        exact HFIN.out _ G hown HO.out
theorem do_stamp (h : Duo w wr P R L st) (z i : Int) (r a b : Nat) (p s : Int) (x : List UInt8) (hx : x.length = n) (hs : Sl wr wr.heap.size 1 A0 n c0 (u8s x)) (hr : r < 18446744073709551616) (ha : a < 18446744073709551616) (hb : b < 18446744073709551616) (hz : 0 ≤ z ∧ z ≤ 255) (h4 : Int.tmod z 8 = 4) :
    Calls Try.prog 17 #[.pointer (some ⟨P, 0, none⟩), .pointer (some ⟨R, 0, none⟩), .agg #[.int .u8 z, .int .i64 i, .int .u64 r, .int .u64 a, .int .u64 b, .int .i64 p, .int .i64 s, .slice A0 n c0]] wr fun e w' => e = .returned (.tuple #[.pointer (some ⟨P, 0, none⟩), .bool true]) ∧ ∃ L' st', Duo w w' P R L' st' := by
  have HD := Lib.hid h
  have HS := Lib.hid hs
  obtain ⟨b0, hb0⟩ : ∃ b0, wr.heap.size = b0 := ⟨_, rfl⟩
  obtain ⟨W1, hW1⟩ : ∃ W1, wr.alloc (.cells #[.int .u8 z, .int .i64 i, .int .u64 r, .int .u64 a, .int .u64 b, .int .i64 p, .int .i64 s, .slice A0 n c0] 35) = W1 := ⟨_, rfl⟩
  have HO1 : Hid (Blk W1 b0 35 #[.int .u8 z, .int .i64 i, .int .u64 r, .int .u64 a, .int .u64 b, .int .i64 p, .int .i64 s, .slice A0 n c0]) := Lib.hid (by rw [← hW1, ← hb0]; exact Blk.new wr _ _)
  have HB1 : Hid (Below b0 wr W1) := Lib.hid (by rw [← hW1, ← hb0]; exact bel_alloc _ _)
  have HW1 := Lib.hid hW1
  have HBZ := Lib.hid hb0
  obtain ⟨d, hd⟩ : ∃ d, x.take 230 = d := ⟨_, rfl⟩
  obtain ⟨m, hm⟩ : ∃ m, min n 230 = m := ⟨_, rfl⟩
  have HDL : Hid (d.length = m) := Lib.hid (by rw [← hd, ← hm, List.length_take, hx]; omega)
  have hm230 : m ≤ 230 := by omega
  have HF : Hid (∀ w0, Sl w0 w0.heap.size 1 A0 n c0 (u8s x) → Calls Try.prog 37 #[.agg #[.int .u64 r, .int .u64 a, .int .u64 b, .int .i64 p, .int .i64 s, .slice A0 n c0]] w0 fun e w' => ∃ v, e = .returned (.agg #[.int .u64 r, .int .u64 a, .int .u64 b, .int .i64 p, .int .i64 s, v]) ∧ OwnB w' w0.heap.size v m (u8s d) ∧ Below w0.heap.size w0 w') := Lib.hid (fun w0 h0 => by have := few_any r a b p s A0 n c0 x w0 h0; rwa [hm, hd] at this)
  clear h hs hW1 hd hm
  go_enter Try.func17, Try.ntmps17
  go_wp2_with fail
  rw [HW1.out]
  refine (HF.out _ (HS.out.on (by rw [HBZ.out]; exact HB1.out))).mono ?_
  rintro e w2 ⟨v, rfl, hov, hb2⟩
  obtain ⟨Au, cu, rfl, _⟩ := Sl.of_own hov
  have hb1s : b0 ≤ W1.heap.size := Nat.le_of_lt (Blk.lt HO1.out)
  obtain ⟨T8, hT8⟩ : ∃ T8, w2.heap.size = T8 := ⟨_, rfl⟩
  obtain ⟨w3, hw3⟩ : ∃ w3, w2.alloc (.cells #[.int .u64 r, .int .u64 a, .int .u64 b, .int .i64 p, .int .i64 s, .slice Au m cu] 33) = w3 := ⟨_, rfl⟩
  have hb3 : Below W1.heap.size W1 w3 := by rw [← hw3]; exact bel_trans hb2 (bel_alloc _ _)
  have HO3 := Lib.hid (Blk.below HO1.out hb3 (Blk.lt HO1.out))
  have HT3 : Hid (Blk w3 T8 33 #[.int .u64 r, .int .u64 a, .int .u64 b, .int .i64 p, .int .i64 s, .slice Au m cu]) := Lib.hid (by rw [← hw3, ← hT8]; exact Blk.new w2 _ _)
  have HU3 : Hid (OwnB w3 b0 (.slice Au m cu) m (u8s d)) := Lib.hid (by rw [← hw3]; exact own_mono (World.ownsRow.alloc hov _) hb1s)
  have HB3 : Hid (Below b0 wr w3) := Lib.hid (HB1.out.trans (hb3.mono hb1s))
  have HD3 := Lib.hid (HD.out.below (by rw [HBZ.out]; exact HB3.out))
  have HW3 : Hid (w2.alloc (.cells #[.int .u64 r, .int .u64 a, .int .u64 b, .int .i64 p, .int .i64 s, .slice Au m cu] 33) = w3 ∧ w2.heap.size = T8 ∧ b0 ≤ T8) := Lib.hid ⟨hw3, hT8, by rw [← hT8]; exact Nat.le_trans hb1s hb2.size⟩
  clear hov hb2 hb1s hT8 hw3 hb3
  go_upto_region 2 with fail
  rw [HW3.out.1, HW3.out.2.1]
  have o0 := HO3.out.cell 0
  have o1 := HO3.out.cell 1
  obtain ⟨hHp, ⟨F, E, A, c, hE, hR, hFP, hFB⟩, hwP, hbel⟩ := HD.out
  have hbP : b0 ≠ P := by have := hHp.lt; have := HBZ.out; omega
  have hFb : ¬ F b0 := fun hg => by have := hR.lt b0 hg; have := HBZ.out; omega
  have hTb : b0 ≤ T8 := HW3.out.2.2
  have hTP : T8 ≠ P := by have := hHp.lt; have := HBZ.out; omega
  have hFT : ¬ F T8 := fun hg => by have := hR.lt T8 hg; have := HBZ.out; omega
  have hlb := Blk.lt HO3.out
  have hlT := Blk.lt HT3.out
  have hbelw : Below wr.heap.size wr w3 → Below w.heap.size w w3 := fun k => hbel.trans (k.mono hbel.size)
  have HFL : Hid (∀ g, F g → g < b0) := Lib.hid (fun g hg => by have := hR.lt g hg; have := HBZ.out; omega)
  have HBW := Lib.hid (hbelw (by rw [HBZ.out]; exact HB3.out))
  have HH := Lib.hid (And.intro (hHp.below (by rw [HBZ.out]; exact HB3.out) hHp.lt) (And.intro (hR.below (by rw [HBZ.out]; exact HB3.out)) (And.intro hFP (And.intro hFB (And.intro hwP hbel)))))
  obtain ⟨y, hy⟩ : ∃ y, stampR L i b p s = y := ⟨_, rfl⟩
  obtain ⟨xr, L'⟩ := y
  have HCP : Hid (∀ w0, Hp w0 P L st → Calls Try.prog 38 #[.pointer (some ⟨P, 0, none⟩), .int .i64 i, .int .u64 b, .agg #[.int .i64 p, .int .i64 s]] w0 fun e w' => e = .returned (.int .i64 xr) ∧ Hp w' P L' st ∧ Only P w0 w') := Lib.hid (fun w0 h0 => by have := stampP h0 i b p s; rwa [hy] at this)
  have HCR : Hid (∀ w0, RfA w0 F R E st A c → Calls Try.prog 62 #[.pointer (some ⟨R, 0, none⟩), .int .i64 i, .int .u64 b, .agg #[.int .i64 p, .int .i64 s]] w0 fun e w' => e = .returned (.int .i64 xr) ∧ (∃ E', E'.map Prod.fst = L' ∧ RfA w' F R E' st A c) ∧ Turn F w0 w') := Lib.hid (fun w0 h0 => by have := stampF h0 hE i b p s; rwa [hy] at this)
  clear hy hHp hR hFP hFB hwP hbel hE
  go_wp2_with fail
  have t2 := HT3.out.cell 2
  have t3 := HT3.out.cell 3
  have t4 := HT3.out.cell 4
  go_region_held3 (fun w' => w'.cell? ⟨b0, 1, none⟩ = some (.int .i64 i) ∧ w'.cell? ⟨T8, 2, none⟩ = some (.int .u64 b) ∧ w'.cell? ⟨T8, 3, none⟩ = some (.int .i64 p) ∧ w'.cell? ⟨T8, 4, none⟩ = some (.int .i64 s)) (first | go_keep | exact ⟨ho4.cell (p := ⟨b0, 1, none⟩) hlb hbP (HO3.out.cell 1), ho4.cell (p := ⟨T8, 2, none⟩) hlT hTP (HT3.out.cell 2), ho4.cell (p := ⟨T8, 3, none⟩) hlT hTP (HT3.out.cell 3), ho4.cell (p := ⟨T8, 4, none⟩) hlT hTP (HT3.out.cell 4)⟩ | exact ⟨ht5.cell (p := ⟨b0, 1, none⟩) (Nat.lt_of_lt_of_le hlb ho4.size) hFb (ho4.cell (p := ⟨b0, 1, none⟩) hlb hbP (HO3.out.cell 1)), ht5.cell (p := ⟨T8, 2, none⟩) (Nat.lt_of_lt_of_le hlT ho4.size) hFT (ho4.cell (p := ⟨T8, 2, none⟩) hlT hTP (HT3.out.cell 2)), ht5.cell (p := ⟨T8, 3, none⟩) (Nat.lt_of_lt_of_le hlT ho4.size) hFT (ho4.cell (p := ⟨T8, 3, none⟩) hlT hTP (HT3.out.cell 3)), ht5.cell (p := ⟨T8, 4, none⟩) (Nat.lt_of_lt_of_le hlT ho4.size) hFT (ho4.cell (p := ⟨T8, 4, none⟩) hlT hTP (HT3.out.cell 4))⟩)
    (first
      | (go_at_call 38; refine (HCP.out _ HH.out.1.drew).mono ?_; rintro e w4 ⟨rfl, hp4, ho4⟩)
      | (go_at_call 62; refine (HCR.out _ ((HH.out.2.1).drew.only ho4 HH.out.2.2.1)).mono ?_; rintro e w5 ⟨rfl, ⟨E5, hE5, hr5⟩, ht5⟩))
  go_wp2_with fail
  go_ret2
  exact ⟨rfl, L', st, Duo.two (hbelw (by rw [HBZ.out]; exact HB3.out)) hp4 ((Only.refl P w3).drew.trans ho4) hE5 hr5 ht5 HH.out.2.2.1 HH.out.2.2.1 HH.out.2.2.2.1 HH.out.2.2.2.1 HH.out.2.2.2.2.1⟩
theorem do_free5 (h : Duo w wr P R L st) (z i : Int) (r a b : Nat) (p s : Int) (x : List UInt8) (hx : x.length = n) (hs : Sl wr wr.heap.size 1 A0 n c0 (u8s x)) (hr : r < 18446744073709551616) (ha : a < 18446744073709551616) (hb : b < 18446744073709551616) (hz : 0 ≤ z ∧ z ≤ 255) (h4 : Int.tmod z 8 = 5) :
    Calls Try.prog 17 #[.pointer (some ⟨P, 0, none⟩), .pointer (some ⟨R, 0, none⟩), .agg #[.int .u8 z, .int .i64 i, .int .u64 r, .int .u64 a, .int .u64 b, .int .i64 p, .int .i64 s, .slice A0 n c0]] wr fun e w' => e = .returned (.tuple #[.pointer (some ⟨P, 0, none⟩), .bool true]) ∧ ∃ L' st', Duo w w' P R L' st' := by
  have HD := Lib.hid h
  have HS := Lib.hid hs
  obtain ⟨b0, hb0⟩ : ∃ b0, wr.heap.size = b0 := ⟨_, rfl⟩
  obtain ⟨W1, hW1⟩ : ∃ W1, wr.alloc (.cells #[.int .u8 z, .int .i64 i, .int .u64 r, .int .u64 a, .int .u64 b, .int .i64 p, .int .i64 s, .slice A0 n c0] 35) = W1 := ⟨_, rfl⟩
  have HO1 : Hid (Blk W1 b0 35 #[.int .u8 z, .int .i64 i, .int .u64 r, .int .u64 a, .int .u64 b, .int .i64 p, .int .i64 s, .slice A0 n c0]) := Lib.hid (by rw [← hW1, ← hb0]; exact Blk.new wr _ _)
  have HB1 : Hid (Below b0 wr W1) := Lib.hid (by rw [← hW1, ← hb0]; exact bel_alloc _ _)
  have HW1 := Lib.hid hW1
  have HBZ := Lib.hid hb0
  obtain ⟨d, hd⟩ : ∃ d, x.take 230 = d := ⟨_, rfl⟩
  obtain ⟨m, hm⟩ : ∃ m, min n 230 = m := ⟨_, rfl⟩
  have HDL : Hid (d.length = m) := Lib.hid (by rw [← hd, ← hm, List.length_take, hx]; omega)
  have hm230 : m ≤ 230 := by omega
  have HF : Hid (∀ w0, Sl w0 w0.heap.size 1 A0 n c0 (u8s x) → Calls Try.prog 37 #[.agg #[.int .u64 r, .int .u64 a, .int .u64 b, .int .i64 p, .int .i64 s, .slice A0 n c0]] w0 fun e w' => ∃ v, e = .returned (.agg #[.int .u64 r, .int .u64 a, .int .u64 b, .int .i64 p, .int .i64 s, v]) ∧ OwnB w' w0.heap.size v m (u8s d) ∧ Below w0.heap.size w0 w') := Lib.hid (fun w0 h0 => by have := few_any r a b p s A0 n c0 x w0 h0; rwa [hm, hd] at this)
  clear h hs hW1 hd hm
  go_enter Try.func17, Try.ntmps17
  go_wp2_with fail
  rw [HW1.out]
  refine (HF.out _ (HS.out.on (by rw [HBZ.out]; exact HB1.out))).mono ?_
  rintro e w2 ⟨v, rfl, hov, hb2⟩
  obtain ⟨Au, cu, rfl, _⟩ := Sl.of_own hov
  have hb1s : b0 ≤ W1.heap.size := Nat.le_of_lt (Blk.lt HO1.out)
  obtain ⟨T8, hT8⟩ : ∃ T8, w2.heap.size = T8 := ⟨_, rfl⟩
  obtain ⟨w3, hw3⟩ : ∃ w3, w2.alloc (.cells #[.int .u64 r, .int .u64 a, .int .u64 b, .int .i64 p, .int .i64 s, .slice Au m cu] 33) = w3 := ⟨_, rfl⟩
  have hb3 : Below W1.heap.size W1 w3 := by rw [← hw3]; exact bel_trans hb2 (bel_alloc _ _)
  have HO3 := Lib.hid (Blk.below HO1.out hb3 (Blk.lt HO1.out))
  have HT3 : Hid (Blk w3 T8 33 #[.int .u64 r, .int .u64 a, .int .u64 b, .int .i64 p, .int .i64 s, .slice Au m cu]) := Lib.hid (by rw [← hw3, ← hT8]; exact Blk.new w2 _ _)
  have HU3 : Hid (OwnB w3 b0 (.slice Au m cu) m (u8s d)) := Lib.hid (by rw [← hw3]; exact own_mono (World.ownsRow.alloc hov _) hb1s)
  have HB3 : Hid (Below b0 wr w3) := Lib.hid (HB1.out.trans (hb3.mono hb1s))
  have HD3 := Lib.hid (HD.out.below (by rw [HBZ.out]; exact HB3.out))
  have HW3 : Hid (w2.alloc (.cells #[.int .u64 r, .int .u64 a, .int .u64 b, .int .i64 p, .int .i64 s, .slice Au m cu] 33) = w3 ∧ w2.heap.size = T8 ∧ b0 ≤ T8) := Lib.hid ⟨hw3, hT8, by rw [← hT8]; exact Nat.le_trans hb1s hb2.size⟩
  clear hov hb2 hb1s hT8 hw3 hb3
  go_upto_region 2 with fail
  rw [HW3.out.1, HW3.out.2.1]
  have o0 := HO3.out.cell 0
  have o1 := HO3.out.cell 1
  obtain ⟨hHp, ⟨F, E, A, c, hE, hR, hFP, hFB⟩, hwP, hbel⟩ := HD.out
  have hbP : b0 ≠ P := by have := hHp.lt; have := HBZ.out; omega
  have hFb : ¬ F b0 := fun hg => by have := hR.lt b0 hg; have := HBZ.out; omega
  have hTb : b0 ≤ T8 := HW3.out.2.2
  have hTP : T8 ≠ P := by have := hHp.lt; have := HBZ.out; omega
  have hFT : ¬ F T8 := fun hg => by have := hR.lt T8 hg; have := HBZ.out; omega
  have hlb := Blk.lt HO3.out
  have hlT := Blk.lt HT3.out
  have hbelw : Below wr.heap.size wr w3 → Below w.heap.size w w3 := fun k => hbel.trans (k.mono hbel.size)
  have HFL : Hid (∀ g, F g → g < b0) := Lib.hid (fun g hg => by have := hR.lt g hg; have := HBZ.out; omega)
  have HBW := Lib.hid (hbelw (by rw [HBZ.out]; exact HB3.out))
  have HH := Lib.hid (And.intro (hHp.below (by rw [HBZ.out]; exact HB3.out) hHp.lt) (And.intro (hR.below (by rw [HBZ.out]; exact HB3.out)) (And.intro hFP (And.intro hFB (And.intro hwP hbel)))))
  obtain ⟨xr, L', hft⟩ := free_ex L i
  have HCP : Hid (∀ w0, Hp w0 P L st → Calls Try.prog 35 #[.pointer (some ⟨P, 0, none⟩), .int .i64 i] w0 fun e w' => e = .returned (.int .i64 xr) ∧ Hp w' P L' st ∧ Only P w0 w') := Lib.hid (fun w0 h0 => freeP h0 i xr L' hft)
  have HCR : Hid (∀ w0, RfA w0 F R E st A c → Calls Try.prog 63 #[.pointer (some ⟨R, 0, none⟩), .int .i64 i] w0 fun e w' => e = .returned (.int .i64 xr) ∧ (∃ E', E'.map Prod.fst = L' ∧ RfA w' F R E' st A c) ∧ Turn F w0 w') := Lib.hid (fun w0 h0 => freeF h0 hE i xr L' hft)
  clear hft hHp hR hFP hFB hwP hbel hE
  go_wp2_with fail
  go_region_held3 (fun w' => w'.cell? ⟨b0, 1, none⟩ = some (.int .i64 i)) (first | go_keep | exact ho4.cell (p := ⟨b0, 1, none⟩) hlb hbP (HO3.out.cell 1) | exact ht5.cell (p := ⟨b0, 1, none⟩) (Nat.lt_of_lt_of_le hlb ho4.size) hFb (ho4.cell (p := ⟨b0, 1, none⟩) hlb hbP (HO3.out.cell 1)))
    (first
      | (go_at_call 35; refine (HCP.out _ HH.out.1.drew).mono ?_; rintro e w4 ⟨rfl, hp4, ho4⟩)
      | (go_at_call 63; refine (HCR.out _ ((HH.out.2.1).drew.only ho4 HH.out.2.2.1)).mono ?_; rintro e w5 ⟨rfl, ⟨E5, hE5, hr5⟩, ht5⟩))
  go_wp2_with fail
  go_ret2
  exact ⟨rfl, L', st, Duo.two (hbelw (by rw [HBZ.out]; exact HB3.out)) hp4 ((Only.refl P w3).drew.trans ho4) hE5 hr5 ht5 HH.out.2.2.1 HH.out.2.2.1 HH.out.2.2.2.1 HH.out.2.2.2.1 HH.out.2.2.2.2.1⟩
theorem do_free6 (h : Duo w wr P R L st) (z i : Int) (r a b : Nat) (p s : Int) (x : List UInt8) (hx : x.length = n) (hs : Sl wr wr.heap.size 1 A0 n c0 (u8s x)) (hr : r < 18446744073709551616) (ha : a < 18446744073709551616) (hb : b < 18446744073709551616) (hz : 0 ≤ z ∧ z ≤ 255) (h4 : Int.tmod z 8 = 6) :
    Calls Try.prog 17 #[.pointer (some ⟨P, 0, none⟩), .pointer (some ⟨R, 0, none⟩), .agg #[.int .u8 z, .int .i64 i, .int .u64 r, .int .u64 a, .int .u64 b, .int .i64 p, .int .i64 s, .slice A0 n c0]] wr fun e w' => e = .returned (.tuple #[.pointer (some ⟨P, 0, none⟩), .bool true]) ∧ ∃ L' st', Duo w w' P R L' st' := by
  have HD := Lib.hid h
  have HS := Lib.hid hs
  obtain ⟨b0, hb0⟩ : ∃ b0, wr.heap.size = b0 := ⟨_, rfl⟩
  obtain ⟨W1, hW1⟩ : ∃ W1, wr.alloc (.cells #[.int .u8 z, .int .i64 i, .int .u64 r, .int .u64 a, .int .u64 b, .int .i64 p, .int .i64 s, .slice A0 n c0] 35) = W1 := ⟨_, rfl⟩
  have HO1 : Hid (Blk W1 b0 35 #[.int .u8 z, .int .i64 i, .int .u64 r, .int .u64 a, .int .u64 b, .int .i64 p, .int .i64 s, .slice A0 n c0]) := Lib.hid (by rw [← hW1, ← hb0]; exact Blk.new wr _ _)
  have HB1 : Hid (Below b0 wr W1) := Lib.hid (by rw [← hW1, ← hb0]; exact bel_alloc _ _)
  have HW1 := Lib.hid hW1
  have HBZ := Lib.hid hb0
  obtain ⟨d, hd⟩ : ∃ d, x.take 230 = d := ⟨_, rfl⟩
  obtain ⟨m, hm⟩ : ∃ m, min n 230 = m := ⟨_, rfl⟩
  have HDL : Hid (d.length = m) := Lib.hid (by rw [← hd, ← hm, List.length_take, hx]; omega)
  have hm230 : m ≤ 230 := by omega
  have HF : Hid (∀ w0, Sl w0 w0.heap.size 1 A0 n c0 (u8s x) → Calls Try.prog 37 #[.agg #[.int .u64 r, .int .u64 a, .int .u64 b, .int .i64 p, .int .i64 s, .slice A0 n c0]] w0 fun e w' => ∃ v, e = .returned (.agg #[.int .u64 r, .int .u64 a, .int .u64 b, .int .i64 p, .int .i64 s, v]) ∧ OwnB w' w0.heap.size v m (u8s d) ∧ Below w0.heap.size w0 w') := Lib.hid (fun w0 h0 => by have := few_any r a b p s A0 n c0 x w0 h0; rwa [hm, hd] at this)
  clear h hs hW1 hd hm
  go_enter Try.func17, Try.ntmps17
  go_wp2_with fail
  rw [HW1.out]
  refine (HF.out _ (HS.out.on (by rw [HBZ.out]; exact HB1.out))).mono ?_
  rintro e w2 ⟨v, rfl, hov, hb2⟩
  obtain ⟨Au, cu, rfl, _⟩ := Sl.of_own hov
  have hb1s : b0 ≤ W1.heap.size := Nat.le_of_lt (Blk.lt HO1.out)
  obtain ⟨T8, hT8⟩ : ∃ T8, w2.heap.size = T8 := ⟨_, rfl⟩
  obtain ⟨w3, hw3⟩ : ∃ w3, w2.alloc (.cells #[.int .u64 r, .int .u64 a, .int .u64 b, .int .i64 p, .int .i64 s, .slice Au m cu] 33) = w3 := ⟨_, rfl⟩
  have hb3 : Below W1.heap.size W1 w3 := by rw [← hw3]; exact bel_trans hb2 (bel_alloc _ _)
  have HO3 := Lib.hid (Blk.below HO1.out hb3 (Blk.lt HO1.out))
  have HT3 : Hid (Blk w3 T8 33 #[.int .u64 r, .int .u64 a, .int .u64 b, .int .i64 p, .int .i64 s, .slice Au m cu]) := Lib.hid (by rw [← hw3, ← hT8]; exact Blk.new w2 _ _)
  have HU3 : Hid (OwnB w3 b0 (.slice Au m cu) m (u8s d)) := Lib.hid (by rw [← hw3]; exact own_mono (World.ownsRow.alloc hov _) hb1s)
  have HB3 : Hid (Below b0 wr w3) := Lib.hid (HB1.out.trans (hb3.mono hb1s))
  have HD3 := Lib.hid (HD.out.below (by rw [HBZ.out]; exact HB3.out))
  have HW3 : Hid (w2.alloc (.cells #[.int .u64 r, .int .u64 a, .int .u64 b, .int .i64 p, .int .i64 s, .slice Au m cu] 33) = w3 ∧ w2.heap.size = T8 ∧ b0 ≤ T8) := Lib.hid ⟨hw3, hT8, by rw [← hT8]; exact Nat.le_trans hb1s hb2.size⟩
  clear hov hb2 hb1s hT8 hw3 hb3
  go_upto_region 2 with fail
  rw [HW3.out.1, HW3.out.2.1]
  have o0 := HO3.out.cell 0
  have o1 := HO3.out.cell 1
  obtain ⟨hHp, ⟨F, E, A, c, hE, hR, hFP, hFB⟩, hwP, hbel⟩ := HD.out
  have hbP : b0 ≠ P := by have := hHp.lt; have := HBZ.out; omega
  have hFb : ¬ F b0 := fun hg => by have := hR.lt b0 hg; have := HBZ.out; omega
  have hTb : b0 ≤ T8 := HW3.out.2.2
  have hTP : T8 ≠ P := by have := hHp.lt; have := HBZ.out; omega
  have hFT : ¬ F T8 := fun hg => by have := hR.lt T8 hg; have := HBZ.out; omega
  have hlb := Blk.lt HO3.out
  have hlT := Blk.lt HT3.out
  have hbelw : Below wr.heap.size wr w3 → Below w.heap.size w w3 := fun k => hbel.trans (k.mono hbel.size)
  have HFL : Hid (∀ g, F g → g < b0) := Lib.hid (fun g hg => by have := hR.lt g hg; have := HBZ.out; omega)
  have HBW := Lib.hid (hbelw (by rw [HBZ.out]; exact HB3.out))
  have HH := Lib.hid (And.intro (hHp.below (by rw [HBZ.out]; exact HB3.out) hHp.lt) (And.intro (hR.below (by rw [HBZ.out]; exact HB3.out)) (And.intro hFP (And.intro hFB (And.intro hwP hbel)))))
  obtain ⟨xr, L', hft⟩ := free_ex L i
  have HCP : Hid (∀ w0, Hp w0 P L st → Calls Try.prog 35 #[.pointer (some ⟨P, 0, none⟩), .int .i64 i] w0 fun e w' => e = .returned (.int .i64 xr) ∧ Hp w' P L' st ∧ Only P w0 w') := Lib.hid (fun w0 h0 => freeP h0 i xr L' hft)
  have HCR : Hid (∀ w0, RfA w0 F R E st A c → Calls Try.prog 63 #[.pointer (some ⟨R, 0, none⟩), .int .i64 i] w0 fun e w' => e = .returned (.int .i64 xr) ∧ (∃ E', E'.map Prod.fst = L' ∧ RfA w' F R E' st A c) ∧ Turn F w0 w') := Lib.hid (fun w0 h0 => freeF h0 hE i xr L' hft)
  clear hft hHp hR hFP hFB hwP hbel hE
  go_wp2_with fail
  go_region_held3 (fun w' => w'.cell? ⟨b0, 1, none⟩ = some (.int .i64 i)) (first | go_keep | exact ho4.cell (p := ⟨b0, 1, none⟩) hlb hbP (HO3.out.cell 1) | exact ht5.cell (p := ⟨b0, 1, none⟩) (Nat.lt_of_lt_of_le hlb ho4.size) hFb (ho4.cell (p := ⟨b0, 1, none⟩) hlb hbP (HO3.out.cell 1)))
    (first
      | (go_at_call 35; refine (HCP.out _ HH.out.1.drew).mono ?_; rintro e w4 ⟨rfl, hp4, ho4⟩)
      | (go_at_call 63; refine (HCR.out _ ((HH.out.2.1).drew.only ho4 HH.out.2.2.1)).mono ?_; rintro e w5 ⟨rfl, ⟨E5, hE5, hr5⟩, ht5⟩))
  go_wp2_with fail
  go_ret2
  exact ⟨rfl, L', st, Duo.two (hbelw (by rw [HBZ.out]; exact HB3.out)) hp4 ((Only.refl P w3).drew.trans ho4) hE5 hr5 ht5 HH.out.2.2.1 HH.out.2.2.1 HH.out.2.2.2.1 HH.out.2.2.2.1 HH.out.2.2.2.2.1⟩
end
end Go.Proofs.Ytbpgjpopmohbmaa.Mem
