/- BookOwn: its walk. -/
import Derived.Test.YtnpmjljpaaaljaaBookW
namespace Go.Proofs.Ytnpmjljpaaaljaa.Bok
open Go.ChangeMaps Go.MapKept Go.RowKit Go.Proofs.Ytnpmjljpaaaljaa.Nums Go.Proofs.Ytnpmjljpaaaljaa.Mem Go.Proofs.Ytnpmjljpaaaljaa.Clg
set_option linter.unusedVariables false
set_option linter.unusedSimpArgs false
set_option maxRecDepth 100000
set_option maxHeartbeats 4000000
theorem own_walk (w : World) (commit index : Bool) : Calls Try.prog 10 #[.bool commit, .bool index] w fun e w' => e = .returned (.bool true) ∧ Below w.heap.size w w' := by
  go_enter Try.func10, Try.ntmps10
  go_wp2_with fail
  refine (awake_b _).mono ?_
  rintro e w1 ⟨rfl, hb1⟩
  have HB1 := Lib.hid hb1
  clear hb1
  go_wp2_with fail
  refine (new_any w1 1 (by omega) (by omega)).mono ?_
  rintro e w2 ⟨F1, P, rfl, hl1, hf1, hb2⟩
  have CN := Lib.hid (j_new (w0 := w) hl1 (fun g hg => Nat.le_trans HB1.out.size (hf1 g hg)) (HB1.out.trans (hb2.mono HB1.out.size)))
  clear hl1 hf1 hb2
  go_wp2_with fail
  refine CN.out.mono ?_
  rintro e w3 ⟨B, rfl, hj3, _⟩
  have CB1 : Hid (Calls Try.prog 25 #[.pointer (some ⟨P, 0, none⟩)] w3 fun e w' => e = .returned (.tuple #[.int .u64 1, .int .i64 0]) ∧ OJ w w' P B [1] [] [] 0 []) := Lib.hid (o_begin (OJ.new hj3) (by simp))
  clear hj3 CN HB1
  go_wp2_with fail
  refine CB1.out.mono ?_
  rintro e w4 ⟨rfl, ho4⟩
  have CB2 : Hid (Calls Try.prog 25 #[.pointer (some ⟨P, 0, none⟩)] w4 fun e w' => e = .returned (.tuple #[.int .u64 2, .int .i64 0]) ∧ OJ w w' P B [1, 1] [] [] 0 []) := Lib.hid (o_begin ho4 (by simp))
  clear ho4 CB1
  go_wp2_with fail
  refine CB2.out.mono ?_
  rintro e w5 ⟨rfl, ho5⟩
  have CT1 : Hid (Calls Try.prog 29 #[.pointer (some ⟨P, 0, none⟩), .int .u64 1] w5 fun e w' => ∃ A c, e = .returned (.agg #[.int .u64 1, .int .u64 2, .int .u64 3, .slice A 1 c]) ∧ OJ w w' P B [1, 1] [] [] 0 [(none, snOf [1, 1] 1 A c)]) := Lib.hid (o_take ho5 (own := 1) (by omega))
  clear ho5 CB2
  go_wp2_with fail
  refine CT1.out.mono ?_
  rintro e w6 ⟨A1, c1, rfl, ho6⟩
  have CT2 : Hid (Calls Try.prog 29 #[.pointer (some ⟨P, 0, none⟩), .int .u64 2] w6 fun e w' => ∃ A c, e = .returned (.agg #[.int .u64 2, .int .u64 1, .int .u64 3, .slice A 1 c]) ∧ OJ w w' P B [1, 1] [] [] 0 [(none, snOf [1, 1] 2 A c), (none, snOf [1, 1] 1 A1 c1)]) := Lib.hid (o_take ho6 (own := 2) (by omega))
  clear ho6 CT1
  go_wp2_with fail
  refine CT2.out.mono ?_
  rintro e w7 ⟨A2, c2, rfl, ho7⟩
  obtain ⟨T4, hT4⟩ : ∃ T4, w7.heap.size = T4 := ⟨_, rfl⟩
  obtain ⟨w8, hw8⟩ : ∃ w8, w7.alloc (.cells #[.int .u64 1, .int .u64 2, .int .u64 3, .slice A1 1 c1] 48) = w8 := ⟨_, rfl⟩
  obtain ⟨w9, hw9⟩ : ∃ w9, w8.alloc (.cells #[.int .u64 2, .int .u64 1, .int .u64 3, .slice A2 1 c2] 48) = w9 := ⟨_, rfl⟩
  have hs8 : w8.heap.size = T4 + 1 := by rw [← hw8, size_alloc, hT4]
  have ho8 : OJ w w8 P B [1, 1] [] [] 0 [(some T4, snOf [1, 1] 1 A1 c1), (none, snOf [1, 1] 2 A2 c2), (none, snOf [1, 1] 1 A1 c1)] := by rw [← hw8, ← hT4]; exact ho7.box (o := none) (s := snOf [1, 1] 1 A1 c1) (.tail _ (.head _))
  have HO9 : Hid (OJ w w9 P B [1, 1] [] [] 0 [(some (T4 + 1), snOf [1, 1] 2 A2 c2), (some T4, snOf [1, 1] 1 A1 c1), (none, snOf [1, 1] 2 A2 c2), (none, snOf [1, 1] 1 A1 c1)]) := Lib.hid (by rw [← hw9, ← hs8]; exact ho8.box (o := none) (s := snOf [1, 1] 2 A2 c2) (.tail _ (.head _)))
  have HW9 := Lib.hid (And.intro hw8 (And.intro hw9 hT4))
  clear ho7 ho8 hs8 hw8 hw9 hT4 CT2
  go_upto_region 8 with fail
  rw [HW9.out.1, HW9.out.2.1, HW9.out.2.2]
  have CO := Lib.hid (one_any w9.drew)
  have X0 : Hid (w9.cell? ⟨T4, 0, none⟩ = some (.int .u64 1) ∧ w9.cell? ⟨T4, 1, none⟩ = some (.int .u64 2) ∧ w9.cell? ⟨T4, 2, none⟩ = some (.int .u64 3) ∧ w9.cell? ⟨T4, 3, none⟩ = some (.slice A1 1 c1)) := Lib.hid (HO9.out.cells (s := snOf [1, 1] 1 A1 c1) (.tail _ (.head _)))
  have HOD := Lib.hid (HO9.out.below (bel_drew w9))
  obtain ⟨x0, x1, x2, x3⟩ := X0.out
  have CY : Hid (∀ (W : World) (d0 c0 : Nat), Col W d0 c0 → OJ w W P B [1, 1] [] [] 0 [(some (T4 + 1), snOf [1, 1] 2 A2 c2), (some T4, snOf [1, 1] 1 A1 c1), (none, snOf [1, 1] 2 A2 c2), (none, snOf [1, 1] 1 A1 c1)] → Calls Try.prog 34 #[.pointer (some ⟨B, 0, none⟩), .pointer (some ⟨P, 0, none⟩), .agg #[.int .u64 1, .int .u64 2, .int .u64 3, .slice A1 1 c1], .string ⟨#[116]⟩, .slice (some ⟨d0, 0, none⟩) 1 c0] W fun e w' => ∃ g d c, e = .returned (.tuple #[.int .u64 1, .int .i64 0]) ∧ OJ w w' P B [1, 1] [⟨⟨g, 1, sT, 1, 0⟩, d, c⟩] [] 1 [(some (T4 + 1), snOf [1, 1] 2 A2 c2), (some T4, snOf [1, 1] 1 A1 c1), (none, snOf [1, 1] 2 A2 c2), (none, snOf [1, 1] 1 A1 c1)]) := Lib.hid (fun W d0 c0 hc hW => o_ct (s := snOf [1, 1] 1 A1 c1) (name := sT) hW (.tail _ (.head _)) (by simp) (by simp) hc (by decide) (ow_ct A1 c1) (by omega))
  go_region_held3 (fun w' => w'.cell? ⟨T4, 0, none⟩ = some (.int .u64 1) ∧ w'.cell? ⟨T4, 1, none⟩ = some (.int .u64 2) ∧ w'.cell? ⟨T4, 2, none⟩ = some (.int .u64 3) ∧ w'.cell? ⟨T4, 3, none⟩ = some (.slice A1 1 c1)) (first | with_reducible exact X4.out | with_reducible exact X3.out | with_reducible exact X0.out | go_keep)
    (first
      | (go_at_call 34; refine (CY.out _ _ _ HC3.out HO3.out).mono ?_; rintro e wc ⟨g, d, c, rfl, hoc⟩; have X4 : Hid (wc.cell? ⟨T4, 0, none⟩ = some (.int .u64 1) ∧ wc.cell? ⟨T4, 1, none⟩ = some (.int .u64 2) ∧ wc.cell? ⟨T4, 2, none⟩ = some (.int .u64 3) ∧ wc.cell? ⟨T4, 3, none⟩ = some (.slice A1 1 c1)) := Lib.hid (hoc.cells (s := snOf [1, 1] 1 A1 c1) (.tail _ (.head _))); have HOC := Lib.hid hoc; clear hoc)
      | (go_at_call 35; refine CO.out.mono ?_; rintro e w3' ⟨d0, c0, rfl, hc3, _, hb3⟩; have HO3 := Lib.hid (HOD.out.below hb3); have X3 : Hid (w3'.cell? ⟨T4, 0, none⟩ = some (.int .u64 1) ∧ w3'.cell? ⟨T4, 1, none⟩ = some (.int .u64 2) ∧ w3'.cell? ⟨T4, 2, none⟩ = some (.int .u64 3) ∧ w3'.cell? ⟨T4, 3, none⟩ = some (.slice A1 1 c1)) := Lib.hid (HO3.out.cells (s := snOf [1, 1] 1 A1 c1) (.tail _ (.head _))); have HC3 := Lib.hid hc3; clear hc3 hb3))
  clear CY CO X0 X3 X4 HOD HO3 HC3 HO9 HW9 x0 x1 x2 x3
  cases index with
  | false =>
    obtain ⟨x0, x1, x2, x3⟩ : wc.cell? ⟨T4, 0, none⟩ = some (.int .u64 1) ∧ wc.cell? ⟨T4, 1, none⟩ = some (.int .u64 2) ∧ wc.cell? ⟨T4, 2, none⟩ = some (.int .u64 3) ∧ wc.cell? ⟨T4, 3, none⟩ = some (.slice A1 1 c1) := HOC.out.cells (s := snOf [1, 1] 1 A1 c1) (.tail _ (.head _))
    have CTB1 : Hid (Calls Try.prog 40 #[.pointer (some ⟨B, 0, none⟩), .pointer (some ⟨P, 0, none⟩), .agg #[.int .u64 1, .int .u64 2, .int .u64 3, .slice A1 1 c1], .string ⟨#[116]⟩] wc fun e w' => TbV 1 true e ∧ OJ w w' P B [1, 1] [⟨⟨g, 1, sT, 1, 0⟩, d, c⟩] [] 1 [(some (T4 + 1), snOf [1, 1] 2 A2 c2), (some T4, snOf [1, 1] 1 A1 c1), (none, snOf [1, 1] 2 A2 c2), (none, snOf [1, 1] 1 A1 c1)]) := Lib.hid (o_tb (s := snOf [1, 1] 1 A1 c1) (name := sT) HOC.out (.tail _ (.head _)) (by simp) (ow_f1 A1 c1 c g d))
    go_wp2_with fail
    refine CTB1.out.mono ?_
    rintro e wt1 ⟨⟨nm1, B1, m1, k1, a1, b1, rfl⟩, hot1⟩
    obtain ⟨wu1, hwu1⟩ : ∃ wu1, wt1.alloc (.cells #[.int .u64 1, .string nm1, .slice B1 m1 k1, .int .u64 (a1 : Int), .int .u64 (b1 : Int)] 91) = wu1 := ⟨_, rfl⟩
    have HU1 : Hid (OJ w wu1 P B [1, 1] [⟨⟨g, 1, sT, 1, 0⟩, d, c⟩] [] 1 [(some (T4 + 1), snOf [1, 1] 2 A2 c2), (some T4, snOf [1, 1] 1 A1 c1), (none, snOf [1, 1] 2 A2 c2), (none, snOf [1, 1] 1 A1 c1)]) := Lib.hid (by rw [← hwu1]; exact hot1.below (bel_alloc _ _))
    have HWU1 := Lib.hid hwu1
    clear hwu1 hot1 x0 x1 x2 x3 CTB1 HOC
    go_upto_region 16 with fail
    rw [HWU1.out]
    obtain ⟨x0, x1, x2, x3⟩ : wu1.cell? ⟨T4 + 1, 0, none⟩ = some (.int .u64 2) ∧ wu1.cell? ⟨T4 + 1, 1, none⟩ = some (.int .u64 1) ∧ wu1.cell? ⟨T4 + 1, 2, none⟩ = some (.int .u64 3) ∧ wu1.cell? ⟨T4 + 1, 3, none⟩ = some (.slice A2 1 c2) := HU1.out.cells (s := snOf [1, 1] 2 A2 c2) (.head _)
    have CTB2 : Hid (Calls Try.prog 40 #[.pointer (some ⟨B, 0, none⟩), .pointer (some ⟨P, 0, none⟩), .agg #[.int .u64 2, .int .u64 1, .int .u64 3, .slice A2 1 c2], .string ⟨#[116]⟩] wu1 fun e w' => TbV 0 false e ∧ OJ w w' P B [1, 1] [⟨⟨g, 1, sT, 1, 0⟩, d, c⟩] [] 1 [(some (T4 + 1), snOf [1, 1] 2 A2 c2), (some T4, snOf [1, 1] 1 A1 c1), (none, snOf [1, 1] 2 A2 c2), (none, snOf [1, 1] 1 A1 c1)]) := Lib.hid (o_tb (s := snOf [1, 1] 2 A2 c2) (name := sT) HU1.out (.head _) (by simp) (ow_f2 A2 c2 c g d))
    go_wp2_with fail
    refine CTB2.out.mono ?_
    rintro e wt2 ⟨⟨nm2, B2, m2, k2, a2, b2, rfl⟩, hot2⟩
    obtain ⟨wu2, hwu2⟩ : ∃ wu2, wt2.alloc (.cells #[.int .u64 0, .string nm2, .slice B2 m2 k2, .int .u64 (a2 : Int), .int .u64 (b2 : Int)] 91) = wu2 := ⟨_, rfl⟩
    have HU2 : Hid (OJ w wu2 P B [1, 1] [⟨⟨g, 1, sT, 1, 0⟩, d, c⟩] [] 1 [(some (T4 + 1), snOf [1, 1] 2 A2 c2), (some T4, snOf [1, 1] 1 A1 c1), (none, snOf [1, 1] 2 A2 c2), (none, snOf [1, 1] 1 A1 c1)]) := Lib.hid (by rw [← hwu2]; exact hot2.below (bel_alloc _ _))
    have HWU2 := Lib.hid hwu2
    clear hwu2 hot2 x0 x1 x2 x3 CTB2 HU1
    go_upto_region 17 with fail
    rw [HWU2.out]
    cases commit with
    | false =>
      have CE : Hid (Calls Try.prog 26 #[.pointer (some ⟨P, 0, none⟩), .int .u64 1] wu2 fun e w' => e = .returned (.int .i64 0) ∧ OJ w w' P B [3, 1] [⟨⟨g, 1, sT, 1, 0⟩, d, c⟩] [] 1 [(some (T4 + 1), snOf [1, 1] 2 A2 c2), (some T4, snOf [1, 1] 1 A1 c1), (none, snOf [1, 1] 2 A2 c2), (none, snOf [1, 1] 1 A1 c1)]) := Lib.hid (o_abort HU2.out (x := 1) (by omega))
      go_wp2_with fail
      refine CE.out.mono ?_
      rintro e we ⟨rfl, hoe⟩
      have CB3 : Hid (Calls Try.prog 25 #[.pointer (some ⟨P, 0, none⟩)] we fun e w' => e = .returned (.tuple #[.int .u64 3, .int .i64 0]) ∧ OJ w w' P B [3, 1, 1] [⟨⟨g, 1, sT, 1, 0⟩, d, c⟩] [] 1 [(some (T4 + 1), snOf [1, 1] 2 A2 c2), (some T4, snOf [1, 1] 1 A1 c1), (none, snOf [1, 1] 2 A2 c2), (none, snOf [1, 1] 1 A1 c1)]) := Lib.hid (o_begin hoe (by simp))
      clear hoe CE HU2
      go_wp2_with fail
      refine CB3.out.mono ?_
      rintro e wf ⟨rfl, hof⟩
      have CT3 : Hid (Calls Try.prog 29 #[.pointer (some ⟨P, 0, none⟩), .int .u64 3] wf fun e w' => ∃ A c', e = .returned (.agg #[.int .u64 3, .int .u64 2, .int .u64 4, .slice A 1 c']) ∧ OJ w w' P B [3, 1, 1] [⟨⟨g, 1, sT, 1, 0⟩, d, c⟩] [] 1 ((none, snOf [3, 1, 1] 3 A c') :: [(some (T4 + 1), snOf [1, 1] 2 A2 c2), (some T4, snOf [1, 1] 1 A1 c1), (none, snOf [1, 1] 2 A2 c2), (none, snOf [1, 1] 1 A1 c1)])) := Lib.hid (o_take hof (own := 3) (by omega))
      clear hof CB3
      go_wp2_with fail
      refine CT3.out.mono ?_
      rintro e wg ⟨A3, c3, rfl, hog⟩
      obtain ⟨T5, hT5⟩ : ∃ T5, wg.heap.size = T5 := ⟨_, rfl⟩
      obtain ⟨wh, hwh⟩ : ∃ wh, wg.alloc (.cells #[.int .u64 3, .int .u64 2, .int .u64 4, .slice A3 1 c3] 48) = wh := ⟨_, rfl⟩
      have HOH : Hid (OJ w wh P B [3, 1, 1] [⟨⟨g, 1, sT, 1, 0⟩, d, c⟩] [] 1 [(some T5, snOf [3, 1, 1] 3 A3 c3), (none, snOf [3, 1, 1] 3 A3 c3), (some (T4 + 1), snOf [1, 1] 2 A2 c2), (some T4, snOf [1, 1] 1 A1 c1), (none, snOf [1, 1] 2 A2 c2), (none, snOf [1, 1] 1 A1 c1)]) := Lib.hid (by rw [← hwh, ← hT5]; exact hog.box (o := none) (s := snOf [3, 1, 1] 3 A3 c3) (.head _))
      have HWH := Lib.hid (And.intro hwh hT5)
      clear hog hwh hT5 CT3
      go_upto_region 22 with fail
      rw [HWH.out.1, HWH.out.2]
      obtain ⟨x0, x1, x2, x3⟩ : wh.cell? ⟨T4 + 1, 0, none⟩ = some (.int .u64 2) ∧ wh.cell? ⟨T4 + 1, 1, none⟩ = some (.int .u64 1) ∧ wh.cell? ⟨T4 + 1, 2, none⟩ = some (.int .u64 3) ∧ wh.cell? ⟨T4 + 1, 3, none⟩ = some (.slice A2 1 c2) := HOH.out.cells (s := snOf [1, 1] 2 A2 c2) (.tail _ (.tail _ (.head _)))
      have CTB3 : Hid (Calls Try.prog 40 #[.pointer (some ⟨B, 0, none⟩), .pointer (some ⟨P, 0, none⟩), .agg #[.int .u64 2, .int .u64 1, .int .u64 3, .slice A2 1 c2], .string ⟨#[116]⟩] wh fun e w' => TbV 0 false e ∧ OJ w w' P B [3, 1, 1] [⟨⟨g, 1, sT, 1, 0⟩, d, c⟩] [] 1 [(some T5, snOf [3, 1, 1] 3 A3 c3), (none, snOf [3, 1, 1] 3 A3 c3), (some (T4 + 1), snOf [1, 1] 2 A2 c2), (some T4, snOf [1, 1] 1 A1 c1), (none, snOf [1, 1] 2 A2 c2), (none, snOf [1, 1] 1 A1 c1)]) := Lib.hid (o_tb (s := snOf [1, 1] 2 A2 c2) (name := sT) HOH.out (.tail _ (.tail _ (.head _))) (by simp) (ow_f4 A2 c2 c g d))
      go_wp2_with fail
      refine CTB3.out.mono ?_
      rintro e wt3 ⟨⟨nm3, B3, m3, k3, a3, b3, rfl⟩, hot3⟩
      obtain ⟨wu3, hwu3⟩ : ∃ wu3, wt3.alloc (.cells #[.int .u64 0, .string nm3, .slice B3 m3 k3, .int .u64 (a3 : Int), .int .u64 (b3 : Int)] 91) = wu3 := ⟨_, rfl⟩
      have HU3 : Hid (OJ w wu3 P B [3, 1, 1] [⟨⟨g, 1, sT, 1, 0⟩, d, c⟩] [] 1 [(some T5, snOf [3, 1, 1] 3 A3 c3), (none, snOf [3, 1, 1] 3 A3 c3), (some (T4 + 1), snOf [1, 1] 2 A2 c2), (some T4, snOf [1, 1] 1 A1 c1), (none, snOf [1, 1] 2 A2 c2), (none, snOf [1, 1] 1 A1 c1)]) := Lib.hid (by rw [← hwu3]; exact hot3.below (bel_alloc _ _))
      have HWU3 := Lib.hid hwu3
      clear hwu3 hot3 x0 x1 x2 x3 CTB3 HOH
      go_upto_region 23 with fail
      rw [HWU3.out]
      obtain ⟨x0, x1, x2, x3⟩ : wu3.cell? ⟨T5, 0, none⟩ = some (.int .u64 3) ∧ wu3.cell? ⟨T5, 1, none⟩ = some (.int .u64 2) ∧ wu3.cell? ⟨T5, 2, none⟩ = some (.int .u64 4) ∧ wu3.cell? ⟨T5, 3, none⟩ = some (.slice A3 1 c3) := HU3.out.cells (s := snOf [3, 1, 1] 3 A3 c3) (.head _)
      have CTB4 : Hid (Calls Try.prog 40 #[.pointer (some ⟨B, 0, none⟩), .pointer (some ⟨P, 0, none⟩), .agg #[.int .u64 3, .int .u64 2, .int .u64 4, .slice A3 1 c3], .string ⟨#[116]⟩] wu3 fun e w' => TbV 0 false e ∧ OJ w w' P B [3, 1, 1] [⟨⟨g, 1, sT, 1, 0⟩, d, c⟩] [] 1 [(some T5, snOf [3, 1, 1] 3 A3 c3), (none, snOf [3, 1, 1] 3 A3 c3), (some (T4 + 1), snOf [1, 1] 2 A2 c2), (some T4, snOf [1, 1] 1 A1 c1), (none, snOf [1, 1] 2 A2 c2), (none, snOf [1, 1] 1 A1 c1)]) := Lib.hid (o_tb (s := snOf [3, 1, 1] 3 A3 c3) (name := sT) HU3.out (.head _) (by simp) (ow_f6 A3 c3 c g d))
      go_wp2_with fail
      refine CTB4.out.mono ?_
      rintro e wt4 ⟨⟨nm4, B4, m4, k4, a4, b4, rfl⟩, hot4⟩
      obtain ⟨wu4, hwu4⟩ : ∃ wu4, wt4.alloc (.cells #[.int .u64 0, .string nm4, .slice B4 m4 k4, .int .u64 (a4 : Int), .int .u64 (b4 : Int)] 91) = wu4 := ⟨_, rfl⟩
      have HU4 : Hid (OJ w wu4 P B [3, 1, 1] [⟨⟨g, 1, sT, 1, 0⟩, d, c⟩] [] 1 [(some T5, snOf [3, 1, 1] 3 A3 c3), (none, snOf [3, 1, 1] 3 A3 c3), (some (T4 + 1), snOf [1, 1] 2 A2 c2), (some T4, snOf [1, 1] 1 A1 c1), (none, snOf [1, 1] 2 A2 c2), (none, snOf [1, 1] 1 A1 c1)]) := Lib.hid (by rw [← hwu4]; exact hot4.below (bel_alloc _ _))
      have HWU4 := Lib.hid hwu4
      clear hwu4 hot4 x0 x1 x2 x3 CTB4 HU3
      go_upto_region 24 with fail
      rw [HWU4.out]
      obtain ⟨x0, x1, x2, x3⟩ : wu4.cell? ⟨T5, 0, none⟩ = some (.int .u64 3) ∧ wu4.cell? ⟨T5, 1, none⟩ = some (.int .u64 2) ∧ wu4.cell? ⟨T5, 2, none⟩ = some (.int .u64 4) ∧ wu4.cell? ⟨T5, 3, none⟩ = some (.slice A3 1 c3) := HU4.out.cells (s := snOf [3, 1, 1] 3 A3 c3) (.head _)
      have CI1 : Hid (Calls Try.prog 41 #[.pointer (some ⟨B, 0, none⟩), .pointer (some ⟨P, 0, none⟩), .agg #[.int .u64 3, .int .u64 2, .int .u64 4, .slice A3 1 c3], .int .u64 1] wu4 fun e w' => ∃ A c', e = .returned (.slice A 0 c') ∧ OJ w w' P B [3, 1, 1] [⟨⟨g, 1, sT, 1, 0⟩, d, c⟩] [] 1 [(some T5, snOf [3, 1, 1] 3 A3 c3), (none, snOf [3, 1, 1] 3 A3 c3), (some (T4 + 1), snOf [1, 1] 2 A2 c2), (some T4, snOf [1, 1] 1 A1 c1), (none, snOf [1, 1] 2 A2 c2), (none, snOf [1, 1] 1 A1 c1)]) := Lib.hid (o_ix (s := snOf [3, 1, 1] 3 A3 c3) HU4.out (.head _) (by simp) (fun x hx => by cases hx) (id := 1) (by omega) (ow_x5 _ _))
      go_wp2_with fail
      refine CI1.out.mono ?_
      rintro e wi1 ⟨Ai1, ci1, rfl, hoi1⟩
      clear x0 x1 x2 x3 HU4
      obtain ⟨x0, x1, x2, x3⟩ : wi1.cell? ⟨T4 + 1, 0, none⟩ = some (.int .u64 2) ∧ wi1.cell? ⟨T4 + 1, 1, none⟩ = some (.int .u64 1) ∧ wi1.cell? ⟨T4 + 1, 2, none⟩ = some (.int .u64 3) ∧ wi1.cell? ⟨T4 + 1, 3, none⟩ = some (.slice A2 1 c2) := hoi1.cells (s := snOf [1, 1] 2 A2 c2) (.tail _ (.tail _ (.head _)))
      have CI2 : Hid (Calls Try.prog 41 #[.pointer (some ⟨B, 0, none⟩), .pointer (some ⟨P, 0, none⟩), .agg #[.int .u64 2, .int .u64 1, .int .u64 3, .slice A2 1 c2], .int .u64 1] wi1 fun e w' => ∃ A c', e = .returned (.slice A 0 c') ∧ OJ w w' P B [3, 1, 1] [⟨⟨g, 1, sT, 1, 0⟩, d, c⟩] [] 1 [(some T5, snOf [3, 1, 1] 3 A3 c3), (none, snOf [3, 1, 1] 3 A3 c3), (some (T4 + 1), snOf [1, 1] 2 A2 c2), (some T4, snOf [1, 1] 1 A1 c1), (none, snOf [1, 1] 2 A2 c2), (none, snOf [1, 1] 1 A1 c1)]) := Lib.hid (o_ix (s := snOf [1, 1] 2 A2 c2) hoi1 (.tail _ (.tail _ (.head _))) (by simp) (fun x hx => by cases hx) (id := 1) (by omega) (ow_x5 _ _))
      clear hoi1 CI1
      go_wp2_with fail
      refine CI2.out.mono ?_
      rintro e wi2 ⟨Ai2, ci2, rfl, hoi2⟩
      have HE := Lib.hid hoi2.bel
      clear hoi2 x0 x1 x2 x3 CI2
      go_wp2_with fail
      go_ret
      exact ⟨rfl, HE.out⟩
    | true =>
      have CE : Hid (Calls Try.prog 27 #[.pointer (some ⟨P, 0, none⟩), .int .u64 1] wu2 fun e w' => e = .returned (.int .i64 0) ∧ OJ w w' P B [2, 1] [⟨⟨g, 1, sT, 1, 0⟩, d, c⟩] [] 1 [(some (T4 + 1), snOf [1, 1] 2 A2 c2), (some T4, snOf [1, 1] 1 A1 c1), (none, snOf [1, 1] 2 A2 c2), (none, snOf [1, 1] 1 A1 c1)]) := Lib.hid (o_commit HU2.out 1)
      go_wp2_with fail
      refine CE.out.mono ?_
      rintro e we ⟨rfl, hoe⟩
      have CB3 : Hid (Calls Try.prog 25 #[.pointer (some ⟨P, 0, none⟩)] we fun e w' => e = .returned (.tuple #[.int .u64 3, .int .i64 0]) ∧ OJ w w' P B [2, 1, 1] [⟨⟨g, 1, sT, 1, 0⟩, d, c⟩] [] 1 [(some (T4 + 1), snOf [1, 1] 2 A2 c2), (some T4, snOf [1, 1] 1 A1 c1), (none, snOf [1, 1] 2 A2 c2), (none, snOf [1, 1] 1 A1 c1)]) := Lib.hid (o_begin hoe (by simp))
      clear hoe CE HU2
      go_wp2_with fail
      refine CB3.out.mono ?_
      rintro e wf ⟨rfl, hof⟩
      have CT3 : Hid (Calls Try.prog 29 #[.pointer (some ⟨P, 0, none⟩), .int .u64 3] wf fun e w' => ∃ A c', e = .returned (.agg #[.int .u64 3, .int .u64 2, .int .u64 4, .slice A 1 c']) ∧ OJ w w' P B [2, 1, 1] [⟨⟨g, 1, sT, 1, 0⟩, d, c⟩] [] 1 ((none, snOf [2, 1, 1] 3 A c') :: [(some (T4 + 1), snOf [1, 1] 2 A2 c2), (some T4, snOf [1, 1] 1 A1 c1), (none, snOf [1, 1] 2 A2 c2), (none, snOf [1, 1] 1 A1 c1)])) := Lib.hid (o_take hof (own := 3) (by omega))
      clear hof CB3
      go_wp2_with fail
      refine CT3.out.mono ?_
      rintro e wg ⟨A3, c3, rfl, hog⟩
      obtain ⟨T5, hT5⟩ : ∃ T5, wg.heap.size = T5 := ⟨_, rfl⟩
      obtain ⟨wh, hwh⟩ : ∃ wh, wg.alloc (.cells #[.int .u64 3, .int .u64 2, .int .u64 4, .slice A3 1 c3] 48) = wh := ⟨_, rfl⟩
      have HOH : Hid (OJ w wh P B [2, 1, 1] [⟨⟨g, 1, sT, 1, 0⟩, d, c⟩] [] 1 [(some T5, snOf [2, 1, 1] 3 A3 c3), (none, snOf [2, 1, 1] 3 A3 c3), (some (T4 + 1), snOf [1, 1] 2 A2 c2), (some T4, snOf [1, 1] 1 A1 c1), (none, snOf [1, 1] 2 A2 c2), (none, snOf [1, 1] 1 A1 c1)]) := Lib.hid (by rw [← hwh, ← hT5]; exact hog.box (o := none) (s := snOf [2, 1, 1] 3 A3 c3) (.head _))
      have HWH := Lib.hid (And.intro hwh hT5)
      clear hog hwh hT5 CT3
      go_upto_region 22 with fail
      rw [HWH.out.1, HWH.out.2]
      obtain ⟨x0, x1, x2, x3⟩ : wh.cell? ⟨T4 + 1, 0, none⟩ = some (.int .u64 2) ∧ wh.cell? ⟨T4 + 1, 1, none⟩ = some (.int .u64 1) ∧ wh.cell? ⟨T4 + 1, 2, none⟩ = some (.int .u64 3) ∧ wh.cell? ⟨T4 + 1, 3, none⟩ = some (.slice A2 1 c2) := HOH.out.cells (s := snOf [1, 1] 2 A2 c2) (.tail _ (.tail _ (.head _)))
      have CTB3 : Hid (Calls Try.prog 40 #[.pointer (some ⟨B, 0, none⟩), .pointer (some ⟨P, 0, none⟩), .agg #[.int .u64 2, .int .u64 1, .int .u64 3, .slice A2 1 c2], .string ⟨#[116]⟩] wh fun e w' => TbV 0 false e ∧ OJ w w' P B [2, 1, 1] [⟨⟨g, 1, sT, 1, 0⟩, d, c⟩] [] 1 [(some T5, snOf [2, 1, 1] 3 A3 c3), (none, snOf [2, 1, 1] 3 A3 c3), (some (T4 + 1), snOf [1, 1] 2 A2 c2), (some T4, snOf [1, 1] 1 A1 c1), (none, snOf [1, 1] 2 A2 c2), (none, snOf [1, 1] 1 A1 c1)]) := Lib.hid (o_tb (s := snOf [1, 1] 2 A2 c2) (name := sT) HOH.out (.tail _ (.tail _ (.head _))) (by simp) (ow_f3 A2 c2 c g d))
      go_wp2_with fail
      refine CTB3.out.mono ?_
      rintro e wt3 ⟨⟨nm3, B3, m3, k3, a3, b3, rfl⟩, hot3⟩
      obtain ⟨wu3, hwu3⟩ : ∃ wu3, wt3.alloc (.cells #[.int .u64 0, .string nm3, .slice B3 m3 k3, .int .u64 (a3 : Int), .int .u64 (b3 : Int)] 91) = wu3 := ⟨_, rfl⟩
      have HU3 : Hid (OJ w wu3 P B [2, 1, 1] [⟨⟨g, 1, sT, 1, 0⟩, d, c⟩] [] 1 [(some T5, snOf [2, 1, 1] 3 A3 c3), (none, snOf [2, 1, 1] 3 A3 c3), (some (T4 + 1), snOf [1, 1] 2 A2 c2), (some T4, snOf [1, 1] 1 A1 c1), (none, snOf [1, 1] 2 A2 c2), (none, snOf [1, 1] 1 A1 c1)]) := Lib.hid (by rw [← hwu3]; exact hot3.below (bel_alloc _ _))
      have HWU3 := Lib.hid hwu3
      clear hwu3 hot3 x0 x1 x2 x3 CTB3 HOH
      go_upto_region 23 with fail
      rw [HWU3.out]
      obtain ⟨x0, x1, x2, x3⟩ : wu3.cell? ⟨T5, 0, none⟩ = some (.int .u64 3) ∧ wu3.cell? ⟨T5, 1, none⟩ = some (.int .u64 2) ∧ wu3.cell? ⟨T5, 2, none⟩ = some (.int .u64 4) ∧ wu3.cell? ⟨T5, 3, none⟩ = some (.slice A3 1 c3) := HU3.out.cells (s := snOf [2, 1, 1] 3 A3 c3) (.head _)
      have CTB4 : Hid (Calls Try.prog 40 #[.pointer (some ⟨B, 0, none⟩), .pointer (some ⟨P, 0, none⟩), .agg #[.int .u64 3, .int .u64 2, .int .u64 4, .slice A3 1 c3], .string ⟨#[116]⟩] wu3 fun e w' => TbV 1 true e ∧ OJ w w' P B [2, 1, 1] [⟨⟨g, 1, sT, 1, 0⟩, d, c⟩] [] 1 [(some T5, snOf [2, 1, 1] 3 A3 c3), (none, snOf [2, 1, 1] 3 A3 c3), (some (T4 + 1), snOf [1, 1] 2 A2 c2), (some T4, snOf [1, 1] 1 A1 c1), (none, snOf [1, 1] 2 A2 c2), (none, snOf [1, 1] 1 A1 c1)]) := Lib.hid (o_tb (s := snOf [2, 1, 1] 3 A3 c3) (name := sT) HU3.out (.head _) (by simp) (ow_f5 A3 c3 c g d))
      go_wp2_with fail
      refine CTB4.out.mono ?_
      rintro e wt4 ⟨⟨nm4, B4, m4, k4, a4, b4, rfl⟩, hot4⟩
      obtain ⟨wu4, hwu4⟩ : ∃ wu4, wt4.alloc (.cells #[.int .u64 1, .string nm4, .slice B4 m4 k4, .int .u64 (a4 : Int), .int .u64 (b4 : Int)] 91) = wu4 := ⟨_, rfl⟩
      have HU4 : Hid (OJ w wu4 P B [2, 1, 1] [⟨⟨g, 1, sT, 1, 0⟩, d, c⟩] [] 1 [(some T5, snOf [2, 1, 1] 3 A3 c3), (none, snOf [2, 1, 1] 3 A3 c3), (some (T4 + 1), snOf [1, 1] 2 A2 c2), (some T4, snOf [1, 1] 1 A1 c1), (none, snOf [1, 1] 2 A2 c2), (none, snOf [1, 1] 1 A1 c1)]) := Lib.hid (by rw [← hwu4]; exact hot4.below (bel_alloc _ _))
      have HWU4 := Lib.hid hwu4
      clear hwu4 hot4 x0 x1 x2 x3 CTB4 HU3
      go_upto_region 24 with fail
      rw [HWU4.out]
      obtain ⟨x0, x1, x2, x3⟩ : wu4.cell? ⟨T5, 0, none⟩ = some (.int .u64 3) ∧ wu4.cell? ⟨T5, 1, none⟩ = some (.int .u64 2) ∧ wu4.cell? ⟨T5, 2, none⟩ = some (.int .u64 4) ∧ wu4.cell? ⟨T5, 3, none⟩ = some (.slice A3 1 c3) := HU4.out.cells (s := snOf [2, 1, 1] 3 A3 c3) (.head _)
      have CI1 : Hid (Calls Try.prog 41 #[.pointer (some ⟨B, 0, none⟩), .pointer (some ⟨P, 0, none⟩), .agg #[.int .u64 3, .int .u64 2, .int .u64 4, .slice A3 1 c3], .int .u64 1] wu4 fun e w' => ∃ A c', e = .returned (.slice A 0 c') ∧ OJ w w' P B [2, 1, 1] [⟨⟨g, 1, sT, 1, 0⟩, d, c⟩] [] 1 [(some T5, snOf [2, 1, 1] 3 A3 c3), (none, snOf [2, 1, 1] 3 A3 c3), (some (T4 + 1), snOf [1, 1] 2 A2 c2), (some T4, snOf [1, 1] 1 A1 c1), (none, snOf [1, 1] 2 A2 c2), (none, snOf [1, 1] 1 A1 c1)]) := Lib.hid (o_ix (s := snOf [2, 1, 1] 3 A3 c3) HU4.out (.head _) (by simp) (fun x hx => by cases hx) (id := 1) (by omega) (ow_x5 _ _))
      go_wp2_with fail
      refine CI1.out.mono ?_
      rintro e wi1 ⟨Ai1, ci1, rfl, hoi1⟩
      clear x0 x1 x2 x3 HU4
      obtain ⟨x0, x1, x2, x3⟩ : wi1.cell? ⟨T4 + 1, 0, none⟩ = some (.int .u64 2) ∧ wi1.cell? ⟨T4 + 1, 1, none⟩ = some (.int .u64 1) ∧ wi1.cell? ⟨T4 + 1, 2, none⟩ = some (.int .u64 3) ∧ wi1.cell? ⟨T4 + 1, 3, none⟩ = some (.slice A2 1 c2) := hoi1.cells (s := snOf [1, 1] 2 A2 c2) (.tail _ (.tail _ (.head _)))
      have CI2 : Hid (Calls Try.prog 41 #[.pointer (some ⟨B, 0, none⟩), .pointer (some ⟨P, 0, none⟩), .agg #[.int .u64 2, .int .u64 1, .int .u64 3, .slice A2 1 c2], .int .u64 1] wi1 fun e w' => ∃ A c', e = .returned (.slice A 0 c') ∧ OJ w w' P B [2, 1, 1] [⟨⟨g, 1, sT, 1, 0⟩, d, c⟩] [] 1 [(some T5, snOf [2, 1, 1] 3 A3 c3), (none, snOf [2, 1, 1] 3 A3 c3), (some (T4 + 1), snOf [1, 1] 2 A2 c2), (some T4, snOf [1, 1] 1 A1 c1), (none, snOf [1, 1] 2 A2 c2), (none, snOf [1, 1] 1 A1 c1)]) := Lib.hid (o_ix (s := snOf [1, 1] 2 A2 c2) hoi1 (.tail _ (.tail _ (.head _))) (by simp) (fun x hx => by cases hx) (id := 1) (by omega) (ow_x5 _ _))
      clear hoi1 CI1
      go_wp2_with fail
      refine CI2.out.mono ?_
      rintro e wi2 ⟨Ai2, ci2, rfl, hoi2⟩
      have HE := Lib.hid hoi2.bel
      clear hoi2 x0 x1 x2 x3 CI2
      go_wp2_with fail
      go_ret
      exact ⟨rfl, HE.out⟩
  | true =>
    obtain ⟨x0, x1, x2, x3⟩ : wc.cell? ⟨T4, 0, none⟩ = some (.int .u64 1) ∧ wc.cell? ⟨T4, 1, none⟩ = some (.int .u64 2) ∧ wc.cell? ⟨T4, 2, none⟩ = some (.int .u64 3) ∧ wc.cell? ⟨T4, 3, none⟩ = some (.slice A1 1 c1) := HOC.out.cells (s := snOf [1, 1] 1 A1 c1) (.tail _ (.head _))
    have CX : Hid (Calls Try.prog 39 #[.pointer (some ⟨B, 0, none⟩), .pointer (some ⟨P, 0, none⟩), .agg #[.int .u64 1, .int .u64 2, .int .u64 3, .slice A1 1 c1], .string ⟨#[105]⟩, .string ⟨#[116]⟩, .string ⟨#[97]⟩] wc fun e w' => ∃ g2, e = .returned (.tuple #[.agg #[.int .u64 2, .string ⟨#[105]⟩, .int .u64 1, .int .i64 0, .int .u64 1, .int .u64 0], .int .i64 0]) ∧ OJ w w' P B [1, 1] [⟨⟨g, 1, sT, 1, 0⟩, d, c⟩] [⟨⟨g2, 2, sI, 1, 0⟩, 1, 0⟩] 2 [(some (T4 + 1), snOf [1, 1] 2 A2 c2), (some T4, snOf [1, 1] 1 A1 c1), (none, snOf [1, 1] 2 A2 c2), (none, snOf [1, 1] 1 A1 c1)]) := Lib.hid (o_ci (s := snOf [1, 1] 1 A1 c1) (name := sI) (tn := sT) HOC.out (.tail _ (.head _)) (by simp) (by simp) (ow_f1 A1 c1 c g d) (by decide) ow_nm (ow_tk A1 c1 c g d) (by omega))
    go_wp2_with fail
    refine CX.out.mono ?_
    rintro e wi ⟨g2, rfl, hoi⟩
    clear x0 x1 x2 x3 HOC CX
    obtain ⟨T6, hT6⟩ : ∃ T6, wi.heap.size = T6 := ⟨_, rfl⟩
    obtain ⟨wj, hwj⟩ : ∃ wj, wi.alloc (.cells #[.int .u64 2, .string ⟨#[105]⟩, .int .u64 1, .int .i64 0, .int .u64 1, .int .u64 0] 87) = wj := ⟨_, rfl⟩
    have hbj : Blk wj T6 87 #[.int .u64 2, .string ⟨#[105]⟩, .int .u64 1, .int .i64 0, .int .u64 1, .int .u64 0] := by rw [← hwj, ← hT6]; exact Blk.new wi _ _
    have HOJ : Hid (OJ w wj P B [1, 1] [⟨⟨g, 1, sT, 1, 0⟩, d, c⟩] [⟨⟨g2, 2, sI, 1, 0⟩, 1, 0⟩] 2 [(some (T4 + 1), snOf [1, 1] 2 A2 c2), (some T4, snOf [1, 1] 1 A1 c1), (none, snOf [1, 1] 2 A2 c2), (none, snOf [1, 1] 1 A1 c1)]) := Lib.hid (by rw [← hwj]; exact hoi.below (bel_alloc _ _))
    have HWJ := Lib.hid (And.intro hwj hT6)
    have y2 : wj.cell? ⟨T6, 2, none⟩ = some (.int .u64 1) := hbj.cell 2
    have y3 : wj.cell? ⟨T6, 3, none⟩ = some (.int .i64 0) := hbj.cell 3
    clear hoi hwj hT6 hbj
    go_upto_region 13 with fail
    rw [HWJ.out.1, HWJ.out.2]
    obtain ⟨x0, x1, x2, x3⟩ : wj.cell? ⟨T4, 0, none⟩ = some (.int .u64 1) ∧ wj.cell? ⟨T4, 1, none⟩ = some (.int .u64 2) ∧ wj.cell? ⟨T4, 2, none⟩ = some (.int .u64 3) ∧ wj.cell? ⟨T4, 3, none⟩ = some (.slice A1 1 c1) := HOJ.out.cells (s := snOf [1, 1] 1 A1 c1) (.tail _ (.head _))
    have CTB5 : Hid (Calls Try.prog 40 #[.pointer (some ⟨B, 0, none⟩), .pointer (some ⟨P, 0, none⟩), .agg #[.int .u64 1, .int .u64 2, .int .u64 3, .slice A1 1 c1], .string ⟨#[116]⟩] wj fun e w' => TbV 1 true e ∧ OJ w w' P B [1, 1] [⟨⟨g, 1, sT, 1, 0⟩, d, c⟩] [⟨⟨g2, 2, sI, 1, 0⟩, 1, 0⟩] 2 [(some (T4 + 1), snOf [1, 1] 2 A2 c2), (some T4, snOf [1, 1] 1 A1 c1), (none, snOf [1, 1] 2 A2 c2), (none, snOf [1, 1] 1 A1 c1)]) := Lib.hid (o_tb (s := snOf [1, 1] 1 A1 c1) (name := sT) HOJ.out (.tail _ (.head _)) (by simp) (ow_f1 A1 c1 c g d))
    go_wp2_with fail
    refine CTB5.out.mono ?_
    rintro e wt5 ⟨⟨nm5, B5, m5, k5, a5, b5, rfl⟩, hot5⟩
    obtain ⟨wu5, hwu5⟩ : ∃ wu5, wt5.alloc (.cells #[.int .u64 1, .string nm5, .slice B5 m5 k5, .int .u64 (a5 : Int), .int .u64 (b5 : Int)] 91) = wu5 := ⟨_, rfl⟩
    have HU5 : Hid (OJ w wu5 P B [1, 1] [⟨⟨g, 1, sT, 1, 0⟩, d, c⟩] [⟨⟨g2, 2, sI, 1, 0⟩, 1, 0⟩] 2 [(some (T4 + 1), snOf [1, 1] 2 A2 c2), (some T4, snOf [1, 1] 1 A1 c1), (none, snOf [1, 1] 2 A2 c2), (none, snOf [1, 1] 1 A1 c1)]) := Lib.hid (by rw [← hwu5]; exact hot5.below (bel_alloc _ _))
    have HWU5 := Lib.hid hwu5
    clear hwu5 hot5 x0 x1 x2 x3 CTB5 HOJ
    go_upto_region 16 with fail
    rw [HWU5.out]
    obtain ⟨x0, x1, x2, x3⟩ : wu5.cell? ⟨T4 + 1, 0, none⟩ = some (.int .u64 2) ∧ wu5.cell? ⟨T4 + 1, 1, none⟩ = some (.int .u64 1) ∧ wu5.cell? ⟨T4 + 1, 2, none⟩ = some (.int .u64 3) ∧ wu5.cell? ⟨T4 + 1, 3, none⟩ = some (.slice A2 1 c2) := HU5.out.cells (s := snOf [1, 1] 2 A2 c2) (.head _)
    have CTB6 : Hid (Calls Try.prog 40 #[.pointer (some ⟨B, 0, none⟩), .pointer (some ⟨P, 0, none⟩), .agg #[.int .u64 2, .int .u64 1, .int .u64 3, .slice A2 1 c2], .string ⟨#[116]⟩] wu5 fun e w' => TbV 0 false e ∧ OJ w w' P B [1, 1] [⟨⟨g, 1, sT, 1, 0⟩, d, c⟩] [⟨⟨g2, 2, sI, 1, 0⟩, 1, 0⟩] 2 [(some (T4 + 1), snOf [1, 1] 2 A2 c2), (some T4, snOf [1, 1] 1 A1 c1), (none, snOf [1, 1] 2 A2 c2), (none, snOf [1, 1] 1 A1 c1)]) := Lib.hid (o_tb (s := snOf [1, 1] 2 A2 c2) (name := sT) HU5.out (.head _) (by simp) (ow_f2 A2 c2 c g d))
    go_wp2_with fail
    refine CTB6.out.mono ?_
    rintro e wt6 ⟨⟨nm6, B6, m6, k6, a6, b6, rfl⟩, hot6⟩
    obtain ⟨wu6, hwu6⟩ : ∃ wu6, wt6.alloc (.cells #[.int .u64 0, .string nm6, .slice B6 m6 k6, .int .u64 (a6 : Int), .int .u64 (b6 : Int)] 91) = wu6 := ⟨_, rfl⟩
    have HU6 : Hid (OJ w wu6 P B [1, 1] [⟨⟨g, 1, sT, 1, 0⟩, d, c⟩] [⟨⟨g2, 2, sI, 1, 0⟩, 1, 0⟩] 2 [(some (T4 + 1), snOf [1, 1] 2 A2 c2), (some T4, snOf [1, 1] 1 A1 c1), (none, snOf [1, 1] 2 A2 c2), (none, snOf [1, 1] 1 A1 c1)]) := Lib.hid (by rw [← hwu6]; exact hot6.below (bel_alloc _ _))
    have HWU6 := Lib.hid hwu6
    clear hwu6 hot6 x0 x1 x2 x3 CTB6 HU5
    go_upto_region 17 with fail
    rw [HWU6.out]
    cases commit with
    | false =>
      have CE : Hid (Calls Try.prog 26 #[.pointer (some ⟨P, 0, none⟩), .int .u64 1] wu6 fun e w' => e = .returned (.int .i64 0) ∧ OJ w w' P B [3, 1] [⟨⟨g, 1, sT, 1, 0⟩, d, c⟩] [⟨⟨g2, 2, sI, 1, 0⟩, 1, 0⟩] 2 [(some (T4 + 1), snOf [1, 1] 2 A2 c2), (some T4, snOf [1, 1] 1 A1 c1), (none, snOf [1, 1] 2 A2 c2), (none, snOf [1, 1] 1 A1 c1)]) := Lib.hid (o_abort HU6.out (x := 1) (by omega))
      go_wp2_with fail
      refine CE.out.mono ?_
      rintro e we ⟨rfl, hoe⟩
      have CB3 : Hid (Calls Try.prog 25 #[.pointer (some ⟨P, 0, none⟩)] we fun e w' => e = .returned (.tuple #[.int .u64 3, .int .i64 0]) ∧ OJ w w' P B [3, 1, 1] [⟨⟨g, 1, sT, 1, 0⟩, d, c⟩] [⟨⟨g2, 2, sI, 1, 0⟩, 1, 0⟩] 2 [(some (T4 + 1), snOf [1, 1] 2 A2 c2), (some T4, snOf [1, 1] 1 A1 c1), (none, snOf [1, 1] 2 A2 c2), (none, snOf [1, 1] 1 A1 c1)]) := Lib.hid (o_begin hoe (by simp))
      clear hoe CE HU6
      go_wp2_with fail
      refine CB3.out.mono ?_
      rintro e wf ⟨rfl, hof⟩
      have CT3 : Hid (Calls Try.prog 29 #[.pointer (some ⟨P, 0, none⟩), .int .u64 3] wf fun e w' => ∃ A c', e = .returned (.agg #[.int .u64 3, .int .u64 2, .int .u64 4, .slice A 1 c']) ∧ OJ w w' P B [3, 1, 1] [⟨⟨g, 1, sT, 1, 0⟩, d, c⟩] [⟨⟨g2, 2, sI, 1, 0⟩, 1, 0⟩] 2 ((none, snOf [3, 1, 1] 3 A c') :: [(some (T4 + 1), snOf [1, 1] 2 A2 c2), (some T4, snOf [1, 1] 1 A1 c1), (none, snOf [1, 1] 2 A2 c2), (none, snOf [1, 1] 1 A1 c1)])) := Lib.hid (o_take hof (own := 3) (by omega))
      clear hof CB3
      go_wp2_with fail
      refine CT3.out.mono ?_
      rintro e wg ⟨A3, c3, rfl, hog⟩
      obtain ⟨T5, hT5⟩ : ∃ T5, wg.heap.size = T5 := ⟨_, rfl⟩
      obtain ⟨wh, hwh⟩ : ∃ wh, wg.alloc (.cells #[.int .u64 3, .int .u64 2, .int .u64 4, .slice A3 1 c3] 48) = wh := ⟨_, rfl⟩
      have HOH : Hid (OJ w wh P B [3, 1, 1] [⟨⟨g, 1, sT, 1, 0⟩, d, c⟩] [⟨⟨g2, 2, sI, 1, 0⟩, 1, 0⟩] 2 [(some T5, snOf [3, 1, 1] 3 A3 c3), (none, snOf [3, 1, 1] 3 A3 c3), (some (T4 + 1), snOf [1, 1] 2 A2 c2), (some T4, snOf [1, 1] 1 A1 c1), (none, snOf [1, 1] 2 A2 c2), (none, snOf [1, 1] 1 A1 c1)]) := Lib.hid (by rw [← hwh, ← hT5]; exact hog.box (o := none) (s := snOf [3, 1, 1] 3 A3 c3) (.head _))
      have HWH := Lib.hid (And.intro hwh hT5)
      clear hog hwh hT5 CT3
      go_upto_region 22 with fail
      rw [HWH.out.1, HWH.out.2]
      obtain ⟨x0, x1, x2, x3⟩ : wh.cell? ⟨T4 + 1, 0, none⟩ = some (.int .u64 2) ∧ wh.cell? ⟨T4 + 1, 1, none⟩ = some (.int .u64 1) ∧ wh.cell? ⟨T4 + 1, 2, none⟩ = some (.int .u64 3) ∧ wh.cell? ⟨T4 + 1, 3, none⟩ = some (.slice A2 1 c2) := HOH.out.cells (s := snOf [1, 1] 2 A2 c2) (.tail _ (.tail _ (.head _)))
      have CTB7 : Hid (Calls Try.prog 40 #[.pointer (some ⟨B, 0, none⟩), .pointer (some ⟨P, 0, none⟩), .agg #[.int .u64 2, .int .u64 1, .int .u64 3, .slice A2 1 c2], .string ⟨#[116]⟩] wh fun e w' => TbV 0 false e ∧ OJ w w' P B [3, 1, 1] [⟨⟨g, 1, sT, 1, 0⟩, d, c⟩] [⟨⟨g2, 2, sI, 1, 0⟩, 1, 0⟩] 2 [(some T5, snOf [3, 1, 1] 3 A3 c3), (none, snOf [3, 1, 1] 3 A3 c3), (some (T4 + 1), snOf [1, 1] 2 A2 c2), (some T4, snOf [1, 1] 1 A1 c1), (none, snOf [1, 1] 2 A2 c2), (none, snOf [1, 1] 1 A1 c1)]) := Lib.hid (o_tb (s := snOf [1, 1] 2 A2 c2) (name := sT) HOH.out (.tail _ (.tail _ (.head _))) (by simp) (ow_f4 A2 c2 c g d))
      go_wp2_with fail
      refine CTB7.out.mono ?_
      rintro e wt7 ⟨⟨nm7, B7, m7, k7, a7, b7, rfl⟩, hot7⟩
      obtain ⟨wu7, hwu7⟩ : ∃ wu7, wt7.alloc (.cells #[.int .u64 0, .string nm7, .slice B7 m7 k7, .int .u64 (a7 : Int), .int .u64 (b7 : Int)] 91) = wu7 := ⟨_, rfl⟩
      have HU7 : Hid (OJ w wu7 P B [3, 1, 1] [⟨⟨g, 1, sT, 1, 0⟩, d, c⟩] [⟨⟨g2, 2, sI, 1, 0⟩, 1, 0⟩] 2 [(some T5, snOf [3, 1, 1] 3 A3 c3), (none, snOf [3, 1, 1] 3 A3 c3), (some (T4 + 1), snOf [1, 1] 2 A2 c2), (some T4, snOf [1, 1] 1 A1 c1), (none, snOf [1, 1] 2 A2 c2), (none, snOf [1, 1] 1 A1 c1)]) := Lib.hid (by rw [← hwu7]; exact hot7.below (bel_alloc _ _))
      have HWU7 := Lib.hid hwu7
      clear hwu7 hot7 x0 x1 x2 x3 CTB7 HOH
      go_upto_region 23 with fail
      rw [HWU7.out]
      obtain ⟨x0, x1, x2, x3⟩ : wu7.cell? ⟨T5, 0, none⟩ = some (.int .u64 3) ∧ wu7.cell? ⟨T5, 1, none⟩ = some (.int .u64 2) ∧ wu7.cell? ⟨T5, 2, none⟩ = some (.int .u64 4) ∧ wu7.cell? ⟨T5, 3, none⟩ = some (.slice A3 1 c3) := HU7.out.cells (s := snOf [3, 1, 1] 3 A3 c3) (.head _)
      have CTB8 : Hid (Calls Try.prog 40 #[.pointer (some ⟨B, 0, none⟩), .pointer (some ⟨P, 0, none⟩), .agg #[.int .u64 3, .int .u64 2, .int .u64 4, .slice A3 1 c3], .string ⟨#[116]⟩] wu7 fun e w' => TbV 0 false e ∧ OJ w w' P B [3, 1, 1] [⟨⟨g, 1, sT, 1, 0⟩, d, c⟩] [⟨⟨g2, 2, sI, 1, 0⟩, 1, 0⟩] 2 [(some T5, snOf [3, 1, 1] 3 A3 c3), (none, snOf [3, 1, 1] 3 A3 c3), (some (T4 + 1), snOf [1, 1] 2 A2 c2), (some T4, snOf [1, 1] 1 A1 c1), (none, snOf [1, 1] 2 A2 c2), (none, snOf [1, 1] 1 A1 c1)]) := Lib.hid (o_tb (s := snOf [3, 1, 1] 3 A3 c3) (name := sT) HU7.out (.head _) (by simp) (ow_f6 A3 c3 c g d))
      go_wp2_with fail
      refine CTB8.out.mono ?_
      rintro e wt8 ⟨⟨nm8, B8, m8, k8, a8, b8, rfl⟩, hot8⟩
      obtain ⟨wu8, hwu8⟩ : ∃ wu8, wt8.alloc (.cells #[.int .u64 0, .string nm8, .slice B8 m8 k8, .int .u64 (a8 : Int), .int .u64 (b8 : Int)] 91) = wu8 := ⟨_, rfl⟩
      have HU8 : Hid (OJ w wu8 P B [3, 1, 1] [⟨⟨g, 1, sT, 1, 0⟩, d, c⟩] [⟨⟨g2, 2, sI, 1, 0⟩, 1, 0⟩] 2 [(some T5, snOf [3, 1, 1] 3 A3 c3), (none, snOf [3, 1, 1] 3 A3 c3), (some (T4 + 1), snOf [1, 1] 2 A2 c2), (some T4, snOf [1, 1] 1 A1 c1), (none, snOf [1, 1] 2 A2 c2), (none, snOf [1, 1] 1 A1 c1)]) := Lib.hid (by rw [← hwu8]; exact hot8.below (bel_alloc _ _))
      have HWU8 := Lib.hid hwu8
      clear hwu8 hot8 x0 x1 x2 x3 CTB8 HU7
      go_upto_region 24 with fail
      rw [HWU8.out]
      obtain ⟨x0, x1, x2, x3⟩ : wu8.cell? ⟨T5, 0, none⟩ = some (.int .u64 3) ∧ wu8.cell? ⟨T5, 1, none⟩ = some (.int .u64 2) ∧ wu8.cell? ⟨T5, 2, none⟩ = some (.int .u64 4) ∧ wu8.cell? ⟨T5, 3, none⟩ = some (.slice A3 1 c3) := HU8.out.cells (s := snOf [3, 1, 1] 3 A3 c3) (.head _)
      have CI1 : Hid (Calls Try.prog 41 #[.pointer (some ⟨B, 0, none⟩), .pointer (some ⟨P, 0, none⟩), .agg #[.int .u64 3, .int .u64 2, .int .u64 4, .slice A3 1 c3], .int .u64 1] wu8 fun e w' => ∃ A c', e = .returned (.slice A 0 c') ∧ OJ w w' P B [3, 1, 1] [⟨⟨g, 1, sT, 1, 0⟩, d, c⟩] [⟨⟨g2, 2, sI, 1, 0⟩, 1, 0⟩] 2 [(some T5, snOf [3, 1, 1] 3 A3 c3), (none, snOf [3, 1, 1] 3 A3 c3), (some (T4 + 1), snOf [1, 1] 2 A2 c2), (some T4, snOf [1, 1] 1 A1 c1), (none, snOf [1, 1] 2 A2 c2), (none, snOf [1, 1] 1 A1 c1)]) := Lib.hid (o_ix (s := snOf [3, 1, 1] 3 A3 c3) HU8.out (.head _) (by simp) (fun x hx => by rw [List.mem_singleton.1 hx]; show 1 ≤ 1000000; omega) (id := 1) (by omega) (ow_x3 A3 c3 g2))
      go_wp2_with fail
      refine CI1.out.mono ?_
      rintro e wi1 ⟨Ai1, ci1, rfl, hoi1⟩
      clear x0 x1 x2 x3 HU8
      obtain ⟨x0, x1, x2, x3⟩ : wi1.cell? ⟨T4 + 1, 0, none⟩ = some (.int .u64 2) ∧ wi1.cell? ⟨T4 + 1, 1, none⟩ = some (.int .u64 1) ∧ wi1.cell? ⟨T4 + 1, 2, none⟩ = some (.int .u64 3) ∧ wi1.cell? ⟨T4 + 1, 3, none⟩ = some (.slice A2 1 c2) := hoi1.cells (s := snOf [1, 1] 2 A2 c2) (.tail _ (.tail _ (.head _)))
      have CI2 : Hid (Calls Try.prog 41 #[.pointer (some ⟨B, 0, none⟩), .pointer (some ⟨P, 0, none⟩), .agg #[.int .u64 2, .int .u64 1, .int .u64 3, .slice A2 1 c2], .int .u64 1] wi1 fun e w' => ∃ A c', e = .returned (.slice A 0 c') ∧ OJ w w' P B [3, 1, 1] [⟨⟨g, 1, sT, 1, 0⟩, d, c⟩] [⟨⟨g2, 2, sI, 1, 0⟩, 1, 0⟩] 2 [(some T5, snOf [3, 1, 1] 3 A3 c3), (none, snOf [3, 1, 1] 3 A3 c3), (some (T4 + 1), snOf [1, 1] 2 A2 c2), (some T4, snOf [1, 1] 1 A1 c1), (none, snOf [1, 1] 2 A2 c2), (none, snOf [1, 1] 1 A1 c1)]) := Lib.hid (o_ix (s := snOf [1, 1] 2 A2 c2) hoi1 (.tail _ (.tail _ (.head _))) (by simp) (fun x hx => by rw [List.mem_singleton.1 hx]; show 1 ≤ 1000000; omega) (id := 1) (by omega) (ow_x4 A2 c2 g2))
      clear hoi1 CI1
      go_wp2_with fail
      refine CI2.out.mono ?_
      rintro e wi2 ⟨Ai2, ci2, rfl, hoi2⟩
      have HE := Lib.hid hoi2.bel
      clear hoi2 x0 x1 x2 x3 CI2
      go_wp2_with fail
      go_ret
      exact ⟨rfl, HE.out⟩
    | true =>
      have CE : Hid (Calls Try.prog 27 #[.pointer (some ⟨P, 0, none⟩), .int .u64 1] wu6 fun e w' => e = .returned (.int .i64 0) ∧ OJ w w' P B [2, 1] [⟨⟨g, 1, sT, 1, 0⟩, d, c⟩] [⟨⟨g2, 2, sI, 1, 0⟩, 1, 0⟩] 2 [(some (T4 + 1), snOf [1, 1] 2 A2 c2), (some T4, snOf [1, 1] 1 A1 c1), (none, snOf [1, 1] 2 A2 c2), (none, snOf [1, 1] 1 A1 c1)]) := Lib.hid (o_commit HU6.out 1)
      go_wp2_with fail
      refine CE.out.mono ?_
      rintro e we ⟨rfl, hoe⟩
      have CB3 : Hid (Calls Try.prog 25 #[.pointer (some ⟨P, 0, none⟩)] we fun e w' => e = .returned (.tuple #[.int .u64 3, .int .i64 0]) ∧ OJ w w' P B [2, 1, 1] [⟨⟨g, 1, sT, 1, 0⟩, d, c⟩] [⟨⟨g2, 2, sI, 1, 0⟩, 1, 0⟩] 2 [(some (T4 + 1), snOf [1, 1] 2 A2 c2), (some T4, snOf [1, 1] 1 A1 c1), (none, snOf [1, 1] 2 A2 c2), (none, snOf [1, 1] 1 A1 c1)]) := Lib.hid (o_begin hoe (by simp))
      clear hoe CE HU6
      go_wp2_with fail
      refine CB3.out.mono ?_
      rintro e wf ⟨rfl, hof⟩
      have CT3 : Hid (Calls Try.prog 29 #[.pointer (some ⟨P, 0, none⟩), .int .u64 3] wf fun e w' => ∃ A c', e = .returned (.agg #[.int .u64 3, .int .u64 2, .int .u64 4, .slice A 1 c']) ∧ OJ w w' P B [2, 1, 1] [⟨⟨g, 1, sT, 1, 0⟩, d, c⟩] [⟨⟨g2, 2, sI, 1, 0⟩, 1, 0⟩] 2 ((none, snOf [2, 1, 1] 3 A c') :: [(some (T4 + 1), snOf [1, 1] 2 A2 c2), (some T4, snOf [1, 1] 1 A1 c1), (none, snOf [1, 1] 2 A2 c2), (none, snOf [1, 1] 1 A1 c1)])) := Lib.hid (o_take hof (own := 3) (by omega))
      clear hof CB3
      go_wp2_with fail
      refine CT3.out.mono ?_
      rintro e wg ⟨A3, c3, rfl, hog⟩
      obtain ⟨T5, hT5⟩ : ∃ T5, wg.heap.size = T5 := ⟨_, rfl⟩
      obtain ⟨wh, hwh⟩ : ∃ wh, wg.alloc (.cells #[.int .u64 3, .int .u64 2, .int .u64 4, .slice A3 1 c3] 48) = wh := ⟨_, rfl⟩
      have HOH : Hid (OJ w wh P B [2, 1, 1] [⟨⟨g, 1, sT, 1, 0⟩, d, c⟩] [⟨⟨g2, 2, sI, 1, 0⟩, 1, 0⟩] 2 [(some T5, snOf [2, 1, 1] 3 A3 c3), (none, snOf [2, 1, 1] 3 A3 c3), (some (T4 + 1), snOf [1, 1] 2 A2 c2), (some T4, snOf [1, 1] 1 A1 c1), (none, snOf [1, 1] 2 A2 c2), (none, snOf [1, 1] 1 A1 c1)]) := Lib.hid (by rw [← hwh, ← hT5]; exact hog.box (o := none) (s := snOf [2, 1, 1] 3 A3 c3) (.head _))
      have HWH := Lib.hid (And.intro hwh hT5)
      clear hog hwh hT5 CT3
      go_upto_region 22 with fail
      rw [HWH.out.1, HWH.out.2]
      obtain ⟨x0, x1, x2, x3⟩ : wh.cell? ⟨T4 + 1, 0, none⟩ = some (.int .u64 2) ∧ wh.cell? ⟨T4 + 1, 1, none⟩ = some (.int .u64 1) ∧ wh.cell? ⟨T4 + 1, 2, none⟩ = some (.int .u64 3) ∧ wh.cell? ⟨T4 + 1, 3, none⟩ = some (.slice A2 1 c2) := HOH.out.cells (s := snOf [1, 1] 2 A2 c2) (.tail _ (.tail _ (.head _)))
      have CTB7 : Hid (Calls Try.prog 40 #[.pointer (some ⟨B, 0, none⟩), .pointer (some ⟨P, 0, none⟩), .agg #[.int .u64 2, .int .u64 1, .int .u64 3, .slice A2 1 c2], .string ⟨#[116]⟩] wh fun e w' => TbV 0 false e ∧ OJ w w' P B [2, 1, 1] [⟨⟨g, 1, sT, 1, 0⟩, d, c⟩] [⟨⟨g2, 2, sI, 1, 0⟩, 1, 0⟩] 2 [(some T5, snOf [2, 1, 1] 3 A3 c3), (none, snOf [2, 1, 1] 3 A3 c3), (some (T4 + 1), snOf [1, 1] 2 A2 c2), (some T4, snOf [1, 1] 1 A1 c1), (none, snOf [1, 1] 2 A2 c2), (none, snOf [1, 1] 1 A1 c1)]) := Lib.hid (o_tb (s := snOf [1, 1] 2 A2 c2) (name := sT) HOH.out (.tail _ (.tail _ (.head _))) (by simp) (ow_f3 A2 c2 c g d))
      go_wp2_with fail
      refine CTB7.out.mono ?_
      rintro e wt7 ⟨⟨nm7, B7, m7, k7, a7, b7, rfl⟩, hot7⟩
      obtain ⟨wu7, hwu7⟩ : ∃ wu7, wt7.alloc (.cells #[.int .u64 0, .string nm7, .slice B7 m7 k7, .int .u64 (a7 : Int), .int .u64 (b7 : Int)] 91) = wu7 := ⟨_, rfl⟩
      have HU7 : Hid (OJ w wu7 P B [2, 1, 1] [⟨⟨g, 1, sT, 1, 0⟩, d, c⟩] [⟨⟨g2, 2, sI, 1, 0⟩, 1, 0⟩] 2 [(some T5, snOf [2, 1, 1] 3 A3 c3), (none, snOf [2, 1, 1] 3 A3 c3), (some (T4 + 1), snOf [1, 1] 2 A2 c2), (some T4, snOf [1, 1] 1 A1 c1), (none, snOf [1, 1] 2 A2 c2), (none, snOf [1, 1] 1 A1 c1)]) := Lib.hid (by rw [← hwu7]; exact hot7.below (bel_alloc _ _))
      have HWU7 := Lib.hid hwu7
      clear hwu7 hot7 x0 x1 x2 x3 CTB7 HOH
      go_upto_region 23 with fail
      rw [HWU7.out]
      obtain ⟨x0, x1, x2, x3⟩ : wu7.cell? ⟨T5, 0, none⟩ = some (.int .u64 3) ∧ wu7.cell? ⟨T5, 1, none⟩ = some (.int .u64 2) ∧ wu7.cell? ⟨T5, 2, none⟩ = some (.int .u64 4) ∧ wu7.cell? ⟨T5, 3, none⟩ = some (.slice A3 1 c3) := HU7.out.cells (s := snOf [2, 1, 1] 3 A3 c3) (.head _)
      have CTB8 : Hid (Calls Try.prog 40 #[.pointer (some ⟨B, 0, none⟩), .pointer (some ⟨P, 0, none⟩), .agg #[.int .u64 3, .int .u64 2, .int .u64 4, .slice A3 1 c3], .string ⟨#[116]⟩] wu7 fun e w' => TbV 1 true e ∧ OJ w w' P B [2, 1, 1] [⟨⟨g, 1, sT, 1, 0⟩, d, c⟩] [⟨⟨g2, 2, sI, 1, 0⟩, 1, 0⟩] 2 [(some T5, snOf [2, 1, 1] 3 A3 c3), (none, snOf [2, 1, 1] 3 A3 c3), (some (T4 + 1), snOf [1, 1] 2 A2 c2), (some T4, snOf [1, 1] 1 A1 c1), (none, snOf [1, 1] 2 A2 c2), (none, snOf [1, 1] 1 A1 c1)]) := Lib.hid (o_tb (s := snOf [2, 1, 1] 3 A3 c3) (name := sT) HU7.out (.head _) (by simp) (ow_f5 A3 c3 c g d))
      go_wp2_with fail
      refine CTB8.out.mono ?_
      rintro e wt8 ⟨⟨nm8, B8, m8, k8, a8, b8, rfl⟩, hot8⟩
      obtain ⟨wu8, hwu8⟩ : ∃ wu8, wt8.alloc (.cells #[.int .u64 1, .string nm8, .slice B8 m8 k8, .int .u64 (a8 : Int), .int .u64 (b8 : Int)] 91) = wu8 := ⟨_, rfl⟩
      have HU8 : Hid (OJ w wu8 P B [2, 1, 1] [⟨⟨g, 1, sT, 1, 0⟩, d, c⟩] [⟨⟨g2, 2, sI, 1, 0⟩, 1, 0⟩] 2 [(some T5, snOf [2, 1, 1] 3 A3 c3), (none, snOf [2, 1, 1] 3 A3 c3), (some (T4 + 1), snOf [1, 1] 2 A2 c2), (some T4, snOf [1, 1] 1 A1 c1), (none, snOf [1, 1] 2 A2 c2), (none, snOf [1, 1] 1 A1 c1)]) := Lib.hid (by rw [← hwu8]; exact hot8.below (bel_alloc _ _))
      have HWU8 := Lib.hid hwu8
      clear hwu8 hot8 x0 x1 x2 x3 CTB8 HU7
      go_upto_region 24 with fail
      rw [HWU8.out]
      obtain ⟨x0, x1, x2, x3⟩ : wu8.cell? ⟨T5, 0, none⟩ = some (.int .u64 3) ∧ wu8.cell? ⟨T5, 1, none⟩ = some (.int .u64 2) ∧ wu8.cell? ⟨T5, 2, none⟩ = some (.int .u64 4) ∧ wu8.cell? ⟨T5, 3, none⟩ = some (.slice A3 1 c3) := HU8.out.cells (s := snOf [2, 1, 1] 3 A3 c3) (.head _)
      have CI1 : Hid (Calls Try.prog 41 #[.pointer (some ⟨B, 0, none⟩), .pointer (some ⟨P, 0, none⟩), .agg #[.int .u64 3, .int .u64 2, .int .u64 4, .slice A3 1 c3], .int .u64 1] wu8 fun e w' => ∃ A c', e = .returned (.slice A 1 c') ∧ OJ w w' P B [2, 1, 1] [⟨⟨g, 1, sT, 1, 0⟩, d, c⟩] [⟨⟨g2, 2, sI, 1, 0⟩, 1, 0⟩] 2 [(some T5, snOf [2, 1, 1] 3 A3 c3), (none, snOf [2, 1, 1] 3 A3 c3), (some (T4 + 1), snOf [1, 1] 2 A2 c2), (some T4, snOf [1, 1] 1 A1 c1), (none, snOf [1, 1] 2 A2 c2), (none, snOf [1, 1] 1 A1 c1)]) := Lib.hid (o_ix (s := snOf [2, 1, 1] 3 A3 c3) HU8.out (.head _) (by simp) (fun x hx => by rw [List.mem_singleton.1 hx]; show 1 ≤ 1000000; omega) (id := 1) (by omega) (ow_x1 A3 c3 g2))
      go_wp2_with fail
      refine CI1.out.mono ?_
      rintro e wi1 ⟨Ai1, ci1, rfl, hoi1⟩
      clear x0 x1 x2 x3 HU8
      obtain ⟨x0, x1, x2, x3⟩ : wi1.cell? ⟨T4 + 1, 0, none⟩ = some (.int .u64 2) ∧ wi1.cell? ⟨T4 + 1, 1, none⟩ = some (.int .u64 1) ∧ wi1.cell? ⟨T4 + 1, 2, none⟩ = some (.int .u64 3) ∧ wi1.cell? ⟨T4 + 1, 3, none⟩ = some (.slice A2 1 c2) := hoi1.cells (s := snOf [1, 1] 2 A2 c2) (.tail _ (.tail _ (.head _)))
      have CI2 : Hid (Calls Try.prog 41 #[.pointer (some ⟨B, 0, none⟩), .pointer (some ⟨P, 0, none⟩), .agg #[.int .u64 2, .int .u64 1, .int .u64 3, .slice A2 1 c2], .int .u64 1] wi1 fun e w' => ∃ A c', e = .returned (.slice A 0 c') ∧ OJ w w' P B [2, 1, 1] [⟨⟨g, 1, sT, 1, 0⟩, d, c⟩] [⟨⟨g2, 2, sI, 1, 0⟩, 1, 0⟩] 2 [(some T5, snOf [2, 1, 1] 3 A3 c3), (none, snOf [2, 1, 1] 3 A3 c3), (some (T4 + 1), snOf [1, 1] 2 A2 c2), (some T4, snOf [1, 1] 1 A1 c1), (none, snOf [1, 1] 2 A2 c2), (none, snOf [1, 1] 1 A1 c1)]) := Lib.hid (o_ix (s := snOf [1, 1] 2 A2 c2) hoi1 (.tail _ (.tail _ (.head _))) (by simp) (fun x hx => by rw [List.mem_singleton.1 hx]; show 1 ≤ 1000000; omega) (id := 1) (by omega) (ow_x2 A2 c2 g2))
      clear hoi1 CI1
      go_wp2_with fail
      refine CI2.out.mono ?_
      rintro e wi2 ⟨Ai2, ci2, rfl, hoi2⟩
      have HE := Lib.hid hoi2.bel
      clear hoi2 x0 x1 x2 x3 CI2
      go_wp2_with fail
      go_ret
      exact ⟨rfl, HE.out⟩
end Go.Proofs.Ytnpmjljpaaaljaa.Bok
