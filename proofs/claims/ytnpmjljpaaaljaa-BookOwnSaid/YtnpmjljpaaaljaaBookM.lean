/- lapidarylaw11.awake. -/
import Derived.Test.YtnpmjljpaaaljaaBookL
namespace Go.Proofs.Ytnpmjljpaaaljaa.Bok
open Go.ChangeMaps Go.MapKept Go.RowKit Go.Proofs.Ytnpmjljpaaaljaa.Nums Go.Proofs.Ytnpmjljpaaaljaa.Mem Go.Proofs.Ytnpmjljpaaaljaa.Clg
set_option linter.unusedVariables false
set_option linter.unusedSimpArgs false
set_option maxRecDepth 100000
set_option maxHeartbeats 2000000
/-- "t" -/
def sT : ByteArray := ⟨#[116]⟩
theorem aw_ct1 (A : Option Addr) (c : Nat) : ctE 1 [1, 1] (snOf [1, 1] 1 A c) sT [] [] = 0 := rfl
theorem aw_ct2 (A : Option Addr) (c c' g d : Nat) : ctE 1 [1, 1] (snOf [1, 1] 2 A c) sT [⟨⟨g, 1, sT, 1, 0⟩, d, c'⟩] [] = 11 := rfl
theorem aw_ct3 (A : Option Addr) (c c' g d : Nat) : ctE 1 [2, 1, 1] (snOf [2, 1, 1] 3 A c) sT [⟨⟨g, 1, sT, 1, 0⟩, d, c'⟩] [] = 7 := rfl
theorem awake_b (w : World) : Calls Try.prog 31 #[] w fun e w' => e = .returned (.bool true) ∧ Below w.heap.size w w' := by
  go_enter Try.func31, Try.ntmps31
  go_wp2_with fail
  refine (new_any w 1 (by omega) (by omega)).mono ?_
  rintro e w1 ⟨F1, P, rfl, hl1, hf1, hb1⟩
  have HL1 := Lib.hid hl1
  have CN := Lib.hid (j_new (w0 := w) hl1 hf1 hb1)
  clear hl1 hf1 hb1
  go_wp2_with fail
  refine CN.out.mono ?_
  rintro e w2 ⟨B, rfl, hj2, _⟩
  have C1 := Lib.hid (j_begin hj2 (by simp))
  clear hj2
  go_wp2_with fail
  refine C1.out.mono ?_
  rintro e w3 ⟨rfl, hj3, _, _⟩
  have C2 := Lib.hid (j_begin hj3 (by simp))
  clear hj3
  go_wp2_with fail
  refine C2.out.mono ?_
  rintro e w4 ⟨rfl, hj4, _, _⟩
  have CT1 : Hid (Calls Try.prog 29 #[.pointer (some ⟨P, 0, none⟩), .int .u64 1] w4 fun e w' => ∃ A c, e = .returned (.agg #[.int .u64 1, .int .u64 2, .int .u64 3, .slice A 1 c]) ∧ SK w' (New No w4 w') (snOf [1, 1] 1 A c) 1 ∧ J w w' (New No w4 w') P B [1, 1] [] [] 0 ∧ KeepK No w4 w' ∧ Below w4.heap.size w4 w') := Lib.hid (j_take hj4 (own := 1) (by omega))
  clear hj4
  go_wp2_with fail
  refine CT1.out.mono ?_
  rintro e w5 ⟨A1, c1, rfl, hs5, hj5, _, _⟩
  obtain ⟨K5, hK5⟩ : ∃ K5, New No w4 w5 = K5 := ⟨_, rfl⟩
  rw [hK5] at hs5 hj5
  have CT2 : Hid (Calls Try.prog 29 #[.pointer (some ⟨P, 0, none⟩), .int .u64 2] w5 fun e w' => ∃ A c, e = .returned (.agg #[.int .u64 2, .int .u64 1, .int .u64 3, .slice A 1 c]) ∧ SK w' (New K5 w5 w') (snOf [1, 1] 2 A c) 1 ∧ J w w' (New K5 w5 w') P B [1, 1] [] [] 0 ∧ KeepK K5 w5 w' ∧ Below w5.heap.size w5 w') := Lib.hid (j_take hj5 (own := 2) (by omega))
  have HS5 := Lib.hid hs5
  clear hs5 hj5 hK5
  go_wp2_with fail
  refine CT2.out.mono ?_
  rintro e w6 ⟨A2, c2, rfl, hs6, hj6, hk6, hb6⟩
  have HS56 := HS5.out.keep hk6 hb6.size (fun g hg => (.inl hg : New K5 w5 w6 g))
  obtain ⟨T4, hT4⟩ : ∃ T4, w6.heap.size = T4 := ⟨_, rfl⟩
  obtain ⟨w7, hw7⟩ : ∃ w7, w6.alloc (.cells #[.int .u64 1, .int .u64 2, .int .u64 3, .slice A1 1 c1] 48) = w7 := ⟨_, rfl⟩
  obtain ⟨w8, hw8⟩ : ∃ w8, w7.alloc (.cells #[.int .u64 2, .int .u64 1, .int .u64 3, .slice A2 1 c2] 48) = w8 := ⟨_, rfl⟩
  have hb7 : Below w6.heap.size w6 w7 := by rw [← hw7]; exact bel_alloc _ _
  have hb8 : Below w6.heap.size w6 w8 := hb7.trans (by rw [← hw8]; exact (bel_alloc w7 _).mono hb7.size)
  have hs7 : w7.heap.size = T4 + 1 := by rw [← hw7, size_alloc, hT4]
  obtain ⟨hj8, hk8⟩ := hj6.newer hb8
  have hx4 : Blk w8 T4 48 #[.int .u64 1, .int .u64 2, .int .u64 3, .slice A1 1 c1] := by rw [← hw8]; exact Blk.alloc (by rw [← hw7, ← hT4]; exact Blk.new w6 _ _) _
  have hx5 : Blk w8 (T4 + 1) 48 #[.int .u64 2, .int .u64 1, .int .u64 3, .slice A2 1 c2] := by rw [← hw8, ← hs7]; exact Blk.new w7 _ _
  obtain ⟨K8, hK8⟩ : ∃ K8, New (New K5 w5 w6) w6 w8 = K8 := ⟨_, rfl⟩
  have hin : ∀ g, New K5 w5 w6 g → K8 g := fun g hg => by rw [← hK8]; exact .inl hg
  have HS1 := Lib.hid (HS56.keep hk8 hb8.size hin)
  have HS2 := Lib.hid (hs6.keep hk8 hb8.size hin)
  rw [hK8] at hj8
  have HX4 := Lib.hid (And.intro hx4 (show K8 T4 by rw [← hK8]; exact .inr ⟨by omega, hx4.lt⟩))
  have HX5 := Lib.hid (And.intro hx5 (show K8 (T4 + 1) by rw [← hK8]; exact .inr ⟨by omega, hx5.lt⟩))
  have HJ8 := Lib.hid hj8
  have HW8 := Lib.hid (And.intro hw7 (And.intro hw8 hT4))
  clear hs6 hj6 hk6 hb6 HS56 hb7 hb8 hs7 hj8 hk8 hx4 hx5 hK8 hin hw7 hw8 hT4
  go_upto_region 8 with fail
  rw [HW8.out.1, HW8.out.2.1, HW8.out.2.2]
  have CO := Lib.hid (one_any w8.drew)
  have X0 := Lib.hid (cells4 HX4.out.1)
  have HXD := Lib.hid (HX4.out.1.below (bel_drew w8) HX4.out.1.lt)
  obtain ⟨x0, x1, x2, x3⟩ := X0.out
  have HJD := Lib.hid (HJ8.out.below (bel_drew w8))
  have CY : Hid (∀ (W : World) (d0 c0 : Nat), Col W d0 c0 → Below w8.drew.heap.size w8.drew W → Calls Try.prog 34 #[.pointer (some ⟨B, 0, none⟩), .pointer (some ⟨P, 0, none⟩), .agg #[.int .u64 1, .int .u64 2, .int .u64 3, .slice A1 1 c1], .string ⟨#[116]⟩, .slice (some ⟨d0, 0, none⟩) 1 c0] W fun e w' => ∃ g d c, e = .returned (.tuple #[.int .u64 1, .int .i64 0]) ∧ GoJ w W K8 P B [1, 1] [⟨⟨g, 1, sT, 1, 0⟩, d, c⟩] [] 1 w') := Lib.hid (fun W d0 c0 hc hW => j_ct_yes (s := snOf [1, 1] 1 A1 c1) (name := sT) (HJD.out.1.below hW).1 ((HS1.out.keep HJD.out.2 (Nat.le_refl _) (fun _ h => h)).keep (HJD.out.1.below hW).2 hW.size (fun _ h => h)) (by simp) (by simp) hc (by decide) (aw_ct1 A1 c1) (by omega))
  go_region_held3 (fun w' => w'.cell? ⟨T4, 0, none⟩ = some (.int .u64 1) ∧ w'.cell? ⟨T4, 1, none⟩ = some (.int .u64 2) ∧ w'.cell? ⟨T4, 2, none⟩ = some (.int .u64 3) ∧ w'.cell? ⟨T4, 3, none⟩ = some (.slice A1 1 c1)) (first | with_reducible exact X4.out | with_reducible exact X3.out | with_reducible exact X0.out | go_keep)
    (first
      | (go_at_call 34; refine (CY.out _ _ _ HC3.out HB3.out).mono ?_; rintro e w4' ⟨g, d, c, rfl, hj4, hk4, hz4⟩; have X4 := Lib.hid (cells4 (hk4.blk HT3.out HX4.out.2)); have HJ9 := Lib.hid hj4; have HK9 := Lib.hid (And.intro hk4 hz4); clear hj4 hk4 hz4)
      | (go_at_call 35; refine CO.out.mono ?_; rintro e w3' ⟨d0, c0, rfl, hc3, _, hb3⟩; have HT3 := Lib.hid (HXD.out.below hb3 HXD.out.lt); have X3 := Lib.hid (cells4 HT3.out); have HB3 := Lib.hid hb3; have HC3 := Lib.hid hc3; clear hc3 hb3))
  have hb83 : Below w8.heap.size w8 w3' := bel_trans (bel_drew w8) HB3.out
  have hk83 := (HJ8.out.below hb83).2
  have hx5 : Blk w4' (T4 + 1) 48 #[.int .u64 2, .int .u64 1, .int .u64 3, .slice A2 1 c2] := HK9.out.1.blk (HX5.out.1.below hb83 HX5.out.1.lt) HX5.out.2
  have hs2 := (HS2.out.keep hk83 hb83.size (fun _ h => h)).keep HK9.out.1 HK9.out.2 (fun _ h => h)
  have HX5b := Lib.hid (And.intro hx5 HX5.out.2)
  have HS2b := Lib.hid hs2
  clear hb83 hk83 hx5 hs2 HB3 HC3 HT3 X4 X3 HK9 CY HJD HXD X0 CO HW8 HJ8 HX4 HX5 HS1 HS2 x0 x1 x2 x3 HS5 CT1 CT2 C1 C2 CN HL1
  have CO := Lib.hid (one_any w4'.drew)
  have Y0 := Lib.hid (cells4 HX5b.out.1)
  have HYD := Lib.hid (HX5b.out.1.below (bel_drew w4') HX5b.out.1.lt)
  obtain ⟨x0, x1, x2, x3⟩ := Y0.out
  have HJD := Lib.hid (HJ9.out.below (bel_drew w4'))
  have CY2 : Hid (∀ (W : World) (d0 c0 : Nat), Col W d0 c0 → Below w4'.drew.heap.size w4'.drew W → Calls Try.prog 34 #[.pointer (some ⟨B, 0, none⟩), .pointer (some ⟨P, 0, none⟩), .agg #[.int .u64 2, .int .u64 1, .int .u64 3, .slice A2 1 c2], .string ⟨#[116]⟩, .slice (some ⟨d0, 0, none⟩) 1 c0] W fun e w' => e = .returned (.tuple #[.int .u64 0, .int .i64 11]) ∧ GoJ w W K8 P B [1, 1] [⟨⟨g, 1, sT, 1, 0⟩, d, c⟩] [] 1 w') := Lib.hid (fun W d0 c0 hc hW => j_ct_no (s := snOf [1, 1] 2 A2 c2) (name := sT) (HJD.out.1.below hW).1 ((HS2b.out.keep HJD.out.2 (Nat.le_refl _) (fun _ h => h)).keep (HJD.out.1.below hW).2 hW.size (fun _ h => h)) (by simp) (by simp) hc (by decide) (aw_ct2 A2 c2 c g d) (by omega))
  go_upto_region 9 with fail
  go_region_held3 (fun w' => w'.cell? ⟨T4 + 1, 0, none⟩ = some (.int .u64 2) ∧ w'.cell? ⟨T4 + 1, 1, none⟩ = some (.int .u64 1) ∧ w'.cell? ⟨T4 + 1, 2, none⟩ = some (.int .u64 3) ∧ w'.cell? ⟨T4 + 1, 3, none⟩ = some (.slice A2 1 c2)) (first | with_reducible exact Y4.out | with_reducible exact Y3.out | with_reducible exact Y0.out | go_keep)
    (first
      | (go_at_call 34; refine (CY2.out _ _ _ HC6.out HB6.out).mono ?_; rintro e w7' ⟨rfl, hj7, hk7, hz7⟩; have Y4 := Lib.hid (cells4 (hk7.blk HT6.out HX5b.out.2)); have HJ10 := Lib.hid hj7; clear hj7 hk7 hz7)
      | (go_at_call 35; refine CO.out.mono ?_; rintro e w6' ⟨d6, c6, rfl, hc6, _, hb6⟩; have HT6 := Lib.hid (HYD.out.below hb6 HYD.out.lt); have Y3 := Lib.hid (cells4 HT6.out); have HB6 := Lib.hid hb6; have HC6 := Lib.hid hc6; clear hc6 hb6))
  clear HB6 HC6 HT6 Y4 Y3 CY2 HJD HYD Y0 CO HX5b HS2b x0 x1 x2 x3 HJ9
  have CM : Hid (Calls Try.prog 27 #[.pointer (some ⟨P, 0, none⟩), .int .u64 1] w7' fun e w' => e = .returned (.int .i64 0) ∧ GoJ w w7' K8 P B [2, 1] [⟨⟨g, 1, sT, 1, 0⟩, d, c⟩] [] 1 w') := Lib.hid (j_commit HJ10.out 1)
  go_wp2_with fail
  refine CM.out.mono ?_
  rintro e wa ⟨rfl, hja, _, _⟩
  have CB : Hid (Calls Try.prog 25 #[.pointer (some ⟨P, 0, none⟩)] wa fun e w' => e = .returned (.tuple #[.int .u64 3, .int .i64 0]) ∧ GoJ w wa K8 P B [2, 1, 1] [⟨⟨g, 1, sT, 1, 0⟩, d, c⟩] [] 1 w') := Lib.hid (j_begin hja (by simp))
  clear hja
  go_wp2_with fail
  refine CB.out.mono ?_
  rintro e wb ⟨rfl, hjb, _, _⟩
  have CT3 : Hid (Calls Try.prog 29 #[.pointer (some ⟨P, 0, none⟩), .int .u64 3] wb fun e w' => ∃ A c', e = .returned (.agg #[.int .u64 3, .int .u64 2, .int .u64 4, .slice A 1 c']) ∧ SK w' (New K8 wb w') (snOf [2, 1, 1] 3 A c') 1 ∧ J w w' (New K8 wb w') P B [2, 1, 1] [⟨⟨g, 1, sT, 1, 0⟩, d, c⟩] [] 1 ∧ KeepK K8 wb w' ∧ Below wb.heap.size wb w') := Lib.hid (j_take hjb (own := 3) (by omega))
  clear hjb
  go_wp2_with fail
  refine CT3.out.mono ?_
  rintro e wc ⟨A3, c3, rfl, hs, hjc, _, _⟩
  have HJC := Lib.hid hjc
  have HSC := Lib.hid hs
  have CO := Lib.hid (one_any wc)
  clear hjc hs
  go_wp2_with fail
  refine CO.out.mono ?_
  rintro e wd ⟨d6, c6, rfl, hcd, _, hbd⟩
  obtain ⟨hjd, hkd⟩ := HJC.out.below hbd
  have CZ : Hid (Calls Try.prog 34 #[.pointer (some ⟨B, 0, none⟩), .pointer (some ⟨P, 0, none⟩), .agg #[.int .u64 3, .int .u64 2, .int .u64 4, .slice A3 1 c3], .string ⟨#[116]⟩, .slice (some ⟨d6, 0, none⟩) 1 c6] wd fun e w' => e = .returned (.tuple #[.int .u64 0, .int .i64 7]) ∧ GoJ w wd (New K8 wb wc) P B [2, 1, 1] [⟨⟨g, 1, sT, 1, 0⟩, d, c⟩] [] 1 w') := Lib.hid (j_ct_no (s := snOf [2, 1, 1] 3 A3 c3) (name := sT) hjd (HSC.out.keep hkd hbd.size (fun _ h => h)) (by simp) (by simp) hcd (by decide) (aw_ct3 A3 c3 c g d) (by omega))
  clear hcd hbd hjd hkd
  go_wp2_with fail
  refine CZ.out.mono ?_
  rintro e we ⟨rfl, hje, _, _⟩
  have HB := Lib.hid hje.bel
  clear hje
  go_wp2_with fail
  go_ret
  exact ⟨rfl, HB.out⟩
end Go.Proofs.Ytnpmjljpaaaljaa.Bok
