/- lapidaryref10: Visible, Free, Dead, Horizon; snap.Free. -/
import Derived.Test.YtnpmjljpaaaljaaSnapX
namespace Go.Proofs.Ytnpmjljpaaaljaa.Clg
open Go.ChangeMaps Go.MapKept Go.RowKit Go.Proofs.Ytnpmjljpaaaljaa.Nums Go.Proofs.Ytnpmjljpaaaljaa.Mem
set_option linter.unusedVariables false
set_option linter.unusedSimpArgs false
set_option maxRecDepth 100000
section
variable {w : World} {F : Nat → Prop} {Q P f : Nat} {S : List Nat}
set_option maxHeartbeats 1000000 in
theorem rvisible_any (h : RF w F Q f S) {own xmax : Nat} {run : List Nat} {A : Option Addr} {c : Nat} (hs : SlU w A c run) {a b : Nat} (ha : a < 18446744073709551616) (hb : b < 18446744073709551616) :
    Calls Try.prog 22 #[.pointer (some ⟨Q, 0, none⟩), .agg #[.int .u64 (own : Int), .int .u64 (xmax : Int), .slice A run.length c], tupV a b] w (BoolP w (visB f S own xmax run a b)) := by
  obtain ⟨W2, hW2⟩ : ∃ W2, W2 = (w.alloc (.cells #[.int .u64 (own : Int), .int .u64 (xmax : Int), .slice A run.length c] 52)).alloc (.cells #[.int .u64 0, .int .u64 (a : Int), .int .u64 (b : Int), .int .i64 0, .int .i64 0, .slice none 0 0] 42) := ⟨_, rfl⟩
  have HB2 : Hid (Below w.heap.size w W2) := Lib.hid (by rw [hW2]; exact (bel_alloc _ _).alloc (by rw [size_alloc]; omega) _)
  have hl2 : RF W2 F Q f S := by rw [hW2]; exact (h.alloc _).alloc _
  have hs2 : SlU W2 A c run := by rw [hW2]; exact Sl.on (Sl.on hs (bel_alloc _ _)) (bel_alloc _ _)
  have hk0 : Blk W2 w.heap.size 52 #[.int .u64 (own : Int), .int .u64 (xmax : Int), .slice A run.length c] := by rw [hW2]; exact (Blk.new w _ _).alloc _
  have hk1 : Blk W2 (w.heap.size + 1) 42 #[.int .u64 0, .int .u64 (a : Int), .int .u64 (b : Int), .int .i64 0, .int .i64 0, .slice none 0 0] := by
    rw [hW2]
    have := Blk.new (w.alloc (.cells #[.int .u64 (own : Int), .int .u64 (xmax : Int), .slice A run.length c] 52)) 42 #[.int .u64 0, .int .u64 (a : Int), .int .u64 (b : Int), .int .i64 0, .int .i64 0, .slice none 0 0]
    rw [size_alloc] at this
    exact this
  have CSa := Lib.hid (rsees_any hl2 (own := own) (xmax := xmax) hs2 ha)
  have CSb := Lib.hid (fun W (hw : Below W2.heap.size W2 W) => rsees_any (hl2.below hw) (own := own) (xmax := xmax) (Sl.on hs2 hw) hb)
  have HK0 := Lib.hid hk0
  have HK1 := Lib.hid hk1
  have HW := Lib.hid hW2
  obtain ⟨n, hn⟩ : ∃ n, run.length = n := ⟨_, rfl⟩
  have HV : Hid (visB f S own xmax run a b = (seesB f S own xmax run a && (b == 0 || !seesB f S own xmax run b))) := Lib.hid rfl
  obtain ⟨p, hp⟩ : ∃ p, seesB f S own xmax run a = p := ⟨_, rfl⟩
  obtain ⟨q1, hq⟩ : ∃ q1, seesB f S own xmax run b = q1 := ⟨_, rfl⟩
  rw [hp] at CSa
  rw [hq] at CSb
  rw [hp, hq] at HV
  unfold tupV
  rw [hn] at CSa CSb HK0 HW
  rw [hn]
  clear h hs ha hW2 hl2 hs2 hk0 hk1 hp hq hn
  have hb' : b < 18446744073709551616 := hb
  have hbi : (0 : Int) ≤ b := by omega
  clear hb
  cases p
  · have HR : Hid (visB f S own xmax run a b = false) := Lib.hid (by rw [HV.out]; rfl)
    clear hb' hbi
    go_enter Try.func22, Try.ntmps22
    go_wp2_with fail
    rw [← HW.out]
    refine CSa.out.mono ?_
    rintro e w3 ⟨rfl, hb3⟩
    have HB3 := Lib.hid (HB2.out.trans (hb3.mono HB2.out.size))
    clear hb3
    go_wp2_with fail
    go_ret
    exact ⟨by rw [HR.out]; rfl, HB3.out⟩
  · by_cases hb0 : b = 0
    · have HR : Hid (visB f S own xmax run a b = true) := Lib.hid (by rw [HV.out, hb0]; rfl)
      have hb1 : ((b : Int) == 0) = true := by rw [beq_iff_eq]; omega
      clear hb' hbi hb0
      go_enter Try.func22, Try.ntmps22
      go_wp2_with fail
      rw [← HW.out]
      refine CSa.out.mono ?_
      rintro e w3 ⟨rfl, hb3⟩
      obtain ⟨t0, t1, t2, t3, t4, t5⟩ := cells6 (HK1.out.below hb3 HK1.out.lt)
      have HB3 := Lib.hid (HB2.out.trans (hb3.mono HB2.out.size))
      clear hb3
      go_wp2_with fail
      go_ret
      exact ⟨by rw [HR.out]; rfl, HB3.out⟩
    · have HR : Hid (visB f S own xmax run a b = !q1) := Lib.hid (by rw [HV.out, beq_eq_false_iff_ne.2 hb0]; rfl)
      have hb1 : ((b : Int) == 0) = false := by rw [beq_eq_false_iff_ne]; omega
      clear hb' hbi hb0
      go_enter Try.func22, Try.ntmps22
      go_wp2_with fail
      rw [← HW.out]
      refine CSa.out.mono ?_
      rintro e w3 ⟨rfl, hb3⟩
      obtain ⟨t0, t1, t2, t3, t4, t5⟩ := cells6 (HK1.out.below hb3 HK1.out.lt)
      obtain ⟨s0, s1, s2⟩ := (cells3 (HK0.out.below hb3 HK0.out.lt)).1
      have HB3 := Lib.hid (HB2.out.trans (hb3.mono HB2.out.size))
      have CS2 := Lib.hid (CSb.out _ hb3)
      clear hb3
      go_wp2_with fail
      refine CS2.out.mono ?_
      rintro e w4 ⟨rfl, hb4⟩
      have HB4 := Lib.hid (HB3.out.trans (hb4.mono HB3.out.size))
      clear hb4
      go_wp2_with fail
      go_ret
      exact ⟨by rw [HR.out]; rfl, HB4.out⟩
set_option maxHeartbeats 2000000 in
theorem free_any (h : LF w F P f S) (hS : ∀ s ∈ S, 1 ≤ s ∧ s ≤ 3) {own xmin xmax : Nat} {run : List Nat} {A : Option Addr} {c : Nat} (hs : SlU w A c run) {a b : Nat} (ha : a < 18446744073709551616) (hb : b < 18446744073709551616) :
    Calls Try.prog 23 #[.pointer (some ⟨P, 0, none⟩), .agg #[.int .u64 (own : Int), .int .u64 (xmin : Int), .int .u64 (xmax : Int), .slice A run.length c], tupV a b] w fun e w' => e = .returned (.int .i64 (freeE f S own xmax run a b)) ∧ Below w.heap.size w w' := by
  obtain ⟨n, hn⟩ : ∃ n, run.length = n := ⟨_, rfl⟩
  obtain ⟨W2, hW2⟩ : ∃ W2, W2 = (w.alloc (.cells #[.int .u64 (own : Int), .int .u64 (xmin : Int), .int .u64 (xmax : Int), .slice A run.length c] 48)).alloc (.cells #[.int .u64 0, .int .u64 (a : Int), .int .u64 (b : Int), .int .i64 0, .int .i64 0, .slice none 0 0] 42) := ⟨_, rfl⟩
  have HB2 : Hid (Below w.heap.size w W2) := Lib.hid (by rw [hW2]; exact (bel_alloc _ _).alloc (by rw [size_alloc]; omega) _)
  have hl2 : LF W2 F P f S := by rw [hW2]; exact (h.alloc _).alloc _
  have hs2 : SlU W2 A c run := by rw [hW2]; exact Sl.on (Sl.on hs (bel_alloc _ _)) (bel_alloc _ _)
  have hk0 : Blk W2 w.heap.size 48 #[.int .u64 (own : Int), .int .u64 (xmin : Int), .int .u64 (xmax : Int), .slice A run.length c] := by rw [hW2]; exact (Blk.new w _ _).alloc _
  have hk1 : Blk W2 (w.heap.size + 1) 42 #[.int .u64 0, .int .u64 (a : Int), .int .u64 (b : Int), .int .i64 0, .int .i64 0, .slice none 0 0] := by
    rw [hW2]
    have := Blk.new (w.alloc (.cells #[.int .u64 (own : Int), .int .u64 (xmin : Int), .int .u64 (xmax : Int), .slice A run.length c] 48)) 42 #[.int .u64 0, .int .u64 (a : Int), .int .u64 (b : Int), .int .i64 0, .int .i64 0, .slice none 0 0]
    rw [size_alloc] at this
    exact this
  have CS := Lib.hid (fun W (hw : Below W2.heap.size W2 W) => state_any (hl2.below hw) hS hb)
  have CV := Lib.hid (fun W (hw : Below W2.heap.size W2 W) => visible_any (hl2.below hw) hS (own := own) (xmin := xmin) (xmax := xmax) (Sl.on hs2 hw) ha hb)
  have HK0 := Lib.hid hk0
  have HK1 := Lib.hid hk1
  have HW := Lib.hid hW2
  obtain ⟨v, hv⟩ : ∃ v, visB f S own xmax run a b = v := ⟨_, rfl⟩
  obtain ⟨q, hq⟩ : ∃ q, stOf f S b = q := ⟨_, rfl⟩
  have HF : Hid (freeE f S own xmax run a b = if b ≠ 0 ∧ b ≠ own ∧ q ≠ 3 then 11 else if v = true then 0 else 14) := Lib.hid (by unfold freeE; rw [hv, hq])
  rw [hv] at CV
  rw [hq] at CS
  unfold tupV at CV
  unfold tupV
  rw [hn] at CV HK0 HW
  rw [hn]
  clear h hs hW2 hl2 hs2 hk0 hk1 hv hq hn hS
  have ha' : (a : Int) < 18446744073709551616 := by omega
  have hb' : (b : Int) < 18446744073709551616 := by omega
  have HBX := Lib.hid (Below.refl W2.heap.size W2)
  by_cases hb0 : b = 0
  · have HR : Hid (freeE f S own xmax run a b = if v = true then 0 else 14) := Lib.hid (by rw [HF.out, if_neg (by omega)])
    have e1 : (b != 0) = false := by rw [bne, beq_iff_eq.2 hb0]; rfl
    have e2 : ((b : Int) != 0) = false := by rw [hb0]; rfl
    clear hb0
    go_enter Try.func23, Try.ntmps23
    go_wp2_with fail
    rw [← HW.out]
    have HBQ := HBX
    obtain ⟨s0, s1, s2, s3⟩ := cells4 (HK0.out.below HBQ.out HK0.out.lt)
    obtain ⟨t0, t1, t2, t3, t4, t5⟩ := cells6 (HK1.out.below HBQ.out HK1.out.lt)
    have CC := Lib.hid (CV.out _ HBQ.out)
    have HB5 := Lib.hid (HB2.out.trans (HBQ.out.mono HB2.out.size))
    cases v
    · go_wp2_with fail
      refine CC.out.mono ?_
      rintro e w5 ⟨rfl, hb5⟩
      have HB6 := Lib.hid (HB5.out.trans (hb5.mono HB5.out.size))
      clear hb5
      go_wp2_with fail
      go_ret
      exact ⟨by rw [HR.out]; rfl, HB6.out⟩
    · go_wp2_with fail
      refine CC.out.mono ?_
      rintro e w5 ⟨rfl, hb5⟩
      have HB6 := Lib.hid (HB5.out.trans (hb5.mono HB5.out.size))
      clear hb5
      go_wp2_with fail
      go_ret
      exact ⟨by rw [HR.out]; rfl, HB6.out⟩
  · have e1 : (b != 0) = true := by rw [bne, beq_eq_false_iff_ne.2 hb0]; rfl
    have e2 : ((b : Int) != 0) = true := by rw [bne, beq_eq_false_iff_ne.2 (by omega)]; rfl
    by_cases hbo : b = own
    · have HR : Hid (freeE f S own xmax run a b = if v = true then 0 else 14) := Lib.hid (by rw [HF.out, if_neg (by omega)])
      have e3 : (b != own) = false := by rw [bne, beq_iff_eq.2 hbo]; rfl
      have e4 : ((b : Int) != (own : Int)) = false := by rw [hbo]; simp
      clear hb0 hbo
      go_enter Try.func23, Try.ntmps23
      go_wp2_with fail
      rw [← HW.out]
      have HBQ := HBX
      obtain ⟨s0, s1, s2, s3⟩ := cells4 (HK0.out.below HBQ.out HK0.out.lt)
      obtain ⟨t0, t1, t2, t3, t4, t5⟩ := cells6 (HK1.out.below HBQ.out HK1.out.lt)
      have CC := Lib.hid (CV.out _ HBQ.out)
      have HB5 := Lib.hid (HB2.out.trans (HBQ.out.mono HB2.out.size))
      cases v
      · go_wp2_with fail
        refine CC.out.mono ?_
        rintro e w5 ⟨rfl, hb5⟩
        have HB6 := Lib.hid (HB5.out.trans (hb5.mono HB5.out.size))
        clear hb5
        go_wp2_with fail
        go_ret
        exact ⟨by rw [HR.out]; rfl, HB6.out⟩
      · go_wp2_with fail
        refine CC.out.mono ?_
        rintro e w5 ⟨rfl, hb5⟩
        have HB6 := Lib.hid (HB5.out.trans (hb5.mono HB5.out.size))
        clear hb5
        go_wp2_with fail
        go_ret
        exact ⟨by rw [HR.out]; rfl, HB6.out⟩
    · have e3 : (b != own) = true := by rw [bne, beq_eq_false_iff_ne.2 hbo]; rfl
      have e4 : ((b : Int) != (own : Int)) = true := by rw [bne, beq_eq_false_iff_ne.2 (by omega)]; rfl
      by_cases hq3 : q = 3
      · have HR : Hid (freeE f S own xmax run a b = if v = true then 0 else 14) := Lib.hid (by rw [HF.out, if_neg (by omega)])
        have e5 : (q != 3) = false := by rw [bne, beq_iff_eq.2 hq3]; rfl
        have e6 : ((q : Int) != 3) = false := by rw [hq3]; rfl
        have CQ := Lib.hid (CS.out W2 HBX.out)
        clear hb0 hbo hq3
        go_enter Try.func23, Try.ntmps23
        go_wp2_with fail
        rw [← HW.out]
        refine CQ.out.mono ?_
        rintro e w4 ⟨rfl, hb4⟩
        have HBX := Lib.hid hb4
        clear hb4
        have HBQ := HBX
        obtain ⟨s0, s1, s2, s3⟩ := cells4 (HK0.out.below HBQ.out HK0.out.lt)
        obtain ⟨t0, t1, t2, t3, t4, t5⟩ := cells6 (HK1.out.below HBQ.out HK1.out.lt)
        have CC := Lib.hid (CV.out _ HBQ.out)
        have HB5 := Lib.hid (HB2.out.trans (HBQ.out.mono HB2.out.size))
        cases v
        · go_wp2_with fail
          refine CC.out.mono ?_
          rintro e w5 ⟨rfl, hb5⟩
          have HB6 := Lib.hid (HB5.out.trans (hb5.mono HB5.out.size))
          clear hb5
          go_wp2_with fail
          go_ret
          exact ⟨by rw [HR.out]; rfl, HB6.out⟩
        · go_wp2_with fail
          refine CC.out.mono ?_
          rintro e w5 ⟨rfl, hb5⟩
          have HB6 := Lib.hid (HB5.out.trans (hb5.mono HB5.out.size))
          clear hb5
          go_wp2_with fail
          go_ret
          exact ⟨by rw [HR.out]; rfl, HB6.out⟩
      · have HR : Hid (freeE f S own xmax run a b = 11) := Lib.hid (by rw [HF.out, if_pos (by omega)])
        have e5 : (q != 3) = true := by rw [bne, beq_eq_false_iff_ne.2 hq3]; rfl
        have e6 : ((q : Int) != 3) = true := by rw [bne, beq_eq_false_iff_ne.2 (by omega)]; rfl
        have CQ := Lib.hid (CS.out W2 HBX.out)
        clear hb0 hbo hq3
        go_enter Try.func23, Try.ntmps23
        go_wp2_with fail
        rw [← HW.out]
        refine CQ.out.mono ?_
        rintro e w4 ⟨rfl, hb4⟩
        have HB6 := Lib.hid (HB2.out.trans (hb4.mono HB2.out.size))
        clear hb4
        go_wp2_with fail
        go_ret
        exact ⟨by rw [HR.out]; rfl, HB6.out⟩
set_option maxHeartbeats 2000000 in
theorem rfree_any (h : RF w F Q f S) {own xmax : Nat} {run : List Nat} {A : Option Addr} {c : Nat} (hs : SlU w A c run) {a b : Nat} (ha : a < 18446744073709551616) (hb : b < 18446744073709551616) :
    Calls Try.prog 24 #[.pointer (some ⟨Q, 0, none⟩), .agg #[.int .u64 (own : Int), .int .u64 (xmax : Int), .slice A run.length c], tupV a b] w fun e w' => e = .returned (.int .i64 (freeE f S own xmax run a b)) ∧ Below w.heap.size w w' := by
  obtain ⟨n, hn⟩ : ∃ n, run.length = n := ⟨_, rfl⟩
  obtain ⟨W2, hW2⟩ : ∃ W2, W2 = (w.alloc (.cells #[.int .u64 (own : Int), .int .u64 (xmax : Int), .slice A run.length c] 52)).alloc (.cells #[.int .u64 0, .int .u64 (a : Int), .int .u64 (b : Int), .int .i64 0, .int .i64 0, .slice none 0 0] 42) := ⟨_, rfl⟩
  have HB2 : Hid (Below w.heap.size w W2) := Lib.hid (by rw [hW2]; exact (bel_alloc _ _).alloc (by rw [size_alloc]; omega) _)
  have hl2 : RF W2 F Q f S := by rw [hW2]; exact (h.alloc _).alloc _
  have hs2 : SlU W2 A c run := by rw [hW2]; exact Sl.on (Sl.on hs (bel_alloc _ _)) (bel_alloc _ _)
  have hk0 : Blk W2 w.heap.size 52 #[.int .u64 (own : Int), .int .u64 (xmax : Int), .slice A run.length c] := by rw [hW2]; exact (Blk.new w _ _).alloc _
  have hk1 : Blk W2 (w.heap.size + 1) 42 #[.int .u64 0, .int .u64 (a : Int), .int .u64 (b : Int), .int .i64 0, .int .i64 0, .slice none 0 0] := by
    rw [hW2]
    have := Blk.new (w.alloc (.cells #[.int .u64 (own : Int), .int .u64 (xmax : Int), .slice A run.length c] 52)) 42 #[.int .u64 0, .int .u64 (a : Int), .int .u64 (b : Int), .int .i64 0, .int .i64 0, .slice none 0 0]
    rw [size_alloc] at this
    exact this
  have CS := Lib.hid (fun W (hw : Below W2.heap.size W2 W) => (rstate_any (hl2.below hw) hb).mono fun e w' h => (⟨h.1, belN h.2⟩ : e = .returned (.int .i64 (stOf f S b : Int)) ∧ Below W.heap.size W w'))
  have CV := Lib.hid (fun W (hw : Below W2.heap.size W2 W) => rvisible_any (hl2.below hw) (own := own) (xmax := xmax) (Sl.on hs2 hw) ha hb)
  have HK0 := Lib.hid hk0
  have HK1 := Lib.hid hk1
  have HW := Lib.hid hW2
  obtain ⟨v, hv⟩ : ∃ v, visB f S own xmax run a b = v := ⟨_, rfl⟩
  obtain ⟨q, hq⟩ : ∃ q, stOf f S b = q := ⟨_, rfl⟩
  have HF : Hid (freeE f S own xmax run a b = if b ≠ 0 ∧ b ≠ own ∧ q ≠ 3 then 11 else if v = true then 0 else 14) := Lib.hid (by unfold freeE; rw [hv, hq])
  rw [hv] at CV
  rw [hq] at CS
  unfold tupV at CV
  unfold tupV
  rw [hn] at CV HK0 HW
  rw [hn]
  clear h hs hW2 hl2 hs2 hk0 hk1 hv hq hn
  have ha' : (a : Int) < 18446744073709551616 := by omega
  have hb' : (b : Int) < 18446744073709551616 := by omega
  have HBX := Lib.hid (Below.refl W2.heap.size W2)
  by_cases hb0 : b = 0
  · have HR : Hid (freeE f S own xmax run a b = if v = true then 0 else 14) := Lib.hid (by rw [HF.out, if_neg (by omega)])
    have e1 : (b != 0) = false := by rw [bne, beq_iff_eq.2 hb0]; rfl
    have e2 : ((b : Int) != 0) = false := by rw [hb0]; rfl
    clear hb0
    go_enter Try.func24, Try.ntmps24
    go_wp2_with fail
    rw [← HW.out]
    have HBQ := HBX
    obtain ⟨s0, s1, s2⟩ := (cells3 (HK0.out.below HBQ.out HK0.out.lt)).1
    obtain ⟨t0, t1, t2, t3, t4, t5⟩ := cells6 (HK1.out.below HBQ.out HK1.out.lt)
    have CC := Lib.hid (CV.out _ HBQ.out)
    have HB5 := Lib.hid (HB2.out.trans (HBQ.out.mono HB2.out.size))
    cases v
    · go_wp2_with fail
      refine CC.out.mono ?_
      rintro e w5 ⟨rfl, hb5⟩
      have HB6 := Lib.hid (HB5.out.trans (hb5.mono HB5.out.size))
      clear hb5
      go_wp2_with fail
      go_ret
      exact ⟨by rw [HR.out]; rfl, HB6.out⟩
    · go_wp2_with fail
      refine CC.out.mono ?_
      rintro e w5 ⟨rfl, hb5⟩
      have HB6 := Lib.hid (HB5.out.trans (hb5.mono HB5.out.size))
      clear hb5
      go_wp2_with fail
      go_ret
      exact ⟨by rw [HR.out]; rfl, HB6.out⟩
  · have e1 : (b != 0) = true := by rw [bne, beq_eq_false_iff_ne.2 hb0]; rfl
    have e2 : ((b : Int) != 0) = true := by rw [bne, beq_eq_false_iff_ne.2 (by omega)]; rfl
    by_cases hbo : b = own
    · have HR : Hid (freeE f S own xmax run a b = if v = true then 0 else 14) := Lib.hid (by rw [HF.out, if_neg (by omega)])
      have e3 : (b != own) = false := by rw [bne, beq_iff_eq.2 hbo]; rfl
      have e4 : ((b : Int) != (own : Int)) = false := by rw [hbo]; simp
      clear hb0 hbo
      go_enter Try.func24, Try.ntmps24
      go_wp2_with fail
      rw [← HW.out]
      have HBQ := HBX
      obtain ⟨s0, s1, s2⟩ := (cells3 (HK0.out.below HBQ.out HK0.out.lt)).1
      obtain ⟨t0, t1, t2, t3, t4, t5⟩ := cells6 (HK1.out.below HBQ.out HK1.out.lt)
      have CC := Lib.hid (CV.out _ HBQ.out)
      have HB5 := Lib.hid (HB2.out.trans (HBQ.out.mono HB2.out.size))
      cases v
      · go_wp2_with fail
        refine CC.out.mono ?_
        rintro e w5 ⟨rfl, hb5⟩
        have HB6 := Lib.hid (HB5.out.trans (hb5.mono HB5.out.size))
        clear hb5
        go_wp2_with fail
        go_ret
        exact ⟨by rw [HR.out]; rfl, HB6.out⟩
      · go_wp2_with fail
        refine CC.out.mono ?_
        rintro e w5 ⟨rfl, hb5⟩
        have HB6 := Lib.hid (HB5.out.trans (hb5.mono HB5.out.size))
        clear hb5
        go_wp2_with fail
        go_ret
        exact ⟨by rw [HR.out]; rfl, HB6.out⟩
    · have e3 : (b != own) = true := by rw [bne, beq_eq_false_iff_ne.2 hbo]; rfl
      have e4 : ((b : Int) != (own : Int)) = true := by rw [bne, beq_eq_false_iff_ne.2 (by omega)]; rfl
      by_cases hq3 : q = 3
      · have HR : Hid (freeE f S own xmax run a b = if v = true then 0 else 14) := Lib.hid (by rw [HF.out, if_neg (by omega)])
        have e5 : (q != 3) = false := by rw [bne, beq_iff_eq.2 hq3]; rfl
        have e6 : ((q : Int) != 3) = false := by rw [hq3]; rfl
        have CQ := Lib.hid (CS.out W2 HBX.out)
        clear hb0 hbo hq3
        go_enter Try.func24, Try.ntmps24
        go_wp2_with fail
        rw [← HW.out]
        refine CQ.out.mono ?_
        rintro e w4 ⟨rfl, hb4⟩
        have HBX := Lib.hid hb4
        clear hb4
        have HBQ := HBX
        obtain ⟨s0, s1, s2⟩ := (cells3 (HK0.out.below HBQ.out HK0.out.lt)).1
        obtain ⟨t0, t1, t2, t3, t4, t5⟩ := cells6 (HK1.out.below HBQ.out HK1.out.lt)
        have CC := Lib.hid (CV.out _ HBQ.out)
        have HB5 := Lib.hid (HB2.out.trans (HBQ.out.mono HB2.out.size))
        cases v
        · go_wp2_with fail
          refine CC.out.mono ?_
          rintro e w5 ⟨rfl, hb5⟩
          have HB6 := Lib.hid (HB5.out.trans (hb5.mono HB5.out.size))
          clear hb5
          go_wp2_with fail
          go_ret
          exact ⟨by rw [HR.out]; rfl, HB6.out⟩
        · go_wp2_with fail
          refine CC.out.mono ?_
          rintro e w5 ⟨rfl, hb5⟩
          have HB6 := Lib.hid (HB5.out.trans (hb5.mono HB5.out.size))
          clear hb5
          go_wp2_with fail
          go_ret
          exact ⟨by rw [HR.out]; rfl, HB6.out⟩
      · have HR : Hid (freeE f S own xmax run a b = 11) := Lib.hid (by rw [HF.out, if_pos (by omega)])
        have e5 : (q != 3) = true := by rw [bne, beq_eq_false_iff_ne.2 hq3]; rfl
        have e6 : ((q : Int) != 3) = true := by rw [bne, beq_eq_false_iff_ne.2 (by omega)]; rfl
        have CQ := Lib.hid (CS.out W2 HBX.out)
        clear hb0 hbo hq3
        go_enter Try.func24, Try.ntmps24
        go_wp2_with fail
        rw [← HW.out]
        refine CQ.out.mono ?_
        rintro e w4 ⟨rfl, hb4⟩
        have HB6 := Lib.hid (HB2.out.trans (hb4.mono HB2.out.size))
        clear hb4
        go_wp2_with fail
        go_ret
        exact ⟨by rw [HR.out]; rfl, HB6.out⟩
set_option maxHeartbeats 2000000 in
theorem rdead_any (h : RF w F Q f S) (hf : 1 ≤ f) {a b z : Nat} (ha : a < 18446744073709551616) (hb : b < 18446744073709551616) :
    Calls Try.prog 18 #[.pointer (some ⟨Q, 0, none⟩), tupV a b, .int .u64 (z : Int)] w (BoolP w (deadB f S a b z)) := by
  obtain ⟨W2, hW2⟩ : ∃ W2, W2 = w.alloc (.cells #[.int .u64 0, .int .u64 (a : Int), .int .u64 (b : Int), .int .i64 0, .int .i64 0, .slice none 0 0] 42) := ⟨_, rfl⟩
  have HB2 : Hid (Below w.heap.size w W2) := Lib.hid (by rw [hW2]; exact bel_alloc _ _)
  have hl2 : RF W2 F Q f S := by rw [hW2]; exact h.alloc _
  have hk1 : Blk W2 w.heap.size 42 #[.int .u64 0, .int .u64 (a : Int), .int .u64 (b : Int), .int .i64 0, .int .i64 0, .slice none 0 0] := by rw [hW2]; exact Blk.new w _ _
  have CSa := Lib.hid ((rstate_any hl2 ha).mono fun e w' h => (⟨h.1, belN h.2⟩ : e = .returned (.int .i64 (stOf f S a : Int)) ∧ Below W2.heap.size W2 w'))
  have CSb := Lib.hid (fun W (hw : Below W2.heap.size W2 W) => (rstate_any (hl2.below hw) hb).mono fun e w' h => (⟨h.1, belN h.2⟩ : e = .returned (.int .i64 (stOf f S b : Int)) ∧ Below W.heap.size W w'))
  have HK1 := Lib.hid hk1
  have HW := Lib.hid hW2
  have h0 : b = 0 → stOf f S b = 0 := fun e => by rw [e]; exact st_out (.inl (by omega))
  obtain ⟨p, hp⟩ : ∃ p, stOf f S a = p := ⟨_, rfl⟩
  obtain ⟨q, hq⟩ : ∃ q, stOf f S b = q := ⟨_, rfl⟩
  have HV : Hid (deadB f S a b z = (p == 3 || (decide (b < z) && (q == 2)))) := Lib.hid (by unfold deadB; rw [hp, hq])
  rw [hp] at CSa
  rw [hq] at CSb h0
  unfold tupV
  clear h hW2 hl2 hk1 hp hq
  have ha' : (a : Int) < 18446744073709551616 := by omega
  have hb' : (b : Int) < 18446744073709551616 := by omega
  by_cases hp3 : p = 3
  · subst hp3
    have HR : Hid (deadB f S a b z = true) := Lib.hid (by rw [HV.out]; rfl)
    go_enter Try.func18, Try.ntmps18
    go_wp2_with fail
    rw [← HW.out]
    refine CSa.out.mono ?_
    rintro e w3 ⟨rfl, hb3⟩
    have HB3 := Lib.hid (HB2.out.trans (hb3.mono HB2.out.size))
    clear hb3
    go_wp2_with fail
    go_ret
    exact ⟨by rw [HR.out]; rfl, HB3.out⟩
  · have hp3' : ((p : Int) == 3) = false := by rw [beq_eq_false_iff_ne]; omega
    have hp4 : (p == 3) = false := beq_eq_false_iff_ne.2 hp3
    have HV2 : Hid (deadB f S a b z = (decide (b < z) && (q == 2))) := Lib.hid (by rw [HV.out, hp4]; rfl)
    clear hp3
    by_cases hb0 : 0 < b
    · have e1 : decide (0 < b) = true := by rw [decide_eq_true_eq]; exact hb0
      have e2 : (0 : Int) < b := by omega
      by_cases hbz : b < z
      · have hbz' : decide (b < z) = true := by simpa using hbz
        have hbz2 : (b : Int) < z := by omega
        have HR : Hid (deadB f S a b z = (q == 2)) := Lib.hid (by rw [HV2.out, hbz']; rfl)
        have he : ((q : Int) == 2) = (q == 2) := by
          by_cases e : q = 2
          · subst e; rfl
          · rw [beq_eq_false_iff_ne.2 e, beq_eq_false_iff_ne]; omega
        have HE := Lib.hid he
        clear he hbz hb0
        go_enter Try.func18, Try.ntmps18
        go_wp2_with fail
        rw [← HW.out]
        refine CSa.out.mono ?_
        rintro e w3 ⟨rfl, hb3⟩
        obtain ⟨t0, t1, t2, t3, t4, t5⟩ := cells6 (HK1.out.below hb3 HK1.out.lt)
        have HB3 := Lib.hid (HB2.out.trans (hb3.mono HB2.out.size))
        have CC := Lib.hid (CSb.out w3 hb3)
        clear hb3
        go_wp2_with fail
        refine CC.out.mono ?_
        rintro e w4 ⟨rfl, hb4⟩
        have HB4 := Lib.hid (HB3.out.trans (hb4.mono HB3.out.size))
        clear hb4
        go_wp2_with fail
        go_ret
        exact ⟨by rw [HR.out, ← HE.out]; rfl, HB4.out⟩
      · have hbz' : decide (b < z) = false := by simpa using hbz
        have hbz2 : ¬ (b : Int) < z := by omega
        have HR : Hid (deadB f S a b z = false) := Lib.hid (by rw [HV2.out, hbz']; rfl)
        clear hbz hb0
        go_enter Try.func18, Try.ntmps18
        go_wp2_with fail
        rw [← HW.out]
        refine CSa.out.mono ?_
        rintro e w3 ⟨rfl, hb3⟩
        obtain ⟨t0, t1, t2, t3, t4, t5⟩ := cells6 (HK1.out.below hb3 HK1.out.lt)
        have HB3 := Lib.hid (HB2.out.trans (hb3.mono HB2.out.size))
        clear hb3
        go_wp2_with fail
        go_ret
        exact ⟨by rw [HR.out]; rfl, HB3.out⟩
    · have e1 : decide (0 < b) = false := by rw [decide_eq_false_iff_not]; exact hb0
      have e2 : ¬ (0 : Int) < b := by omega
      have HR : Hid (deadB f S a b z = false) := Lib.hid (by rw [HV2.out, h0 (by omega)]; simp)
      clear hb0 h0
      go_enter Try.func18, Try.ntmps18
      go_wp2_with fail
      rw [← HW.out]
      refine CSa.out.mono ?_
      rintro e w3 ⟨rfl, hb3⟩
      obtain ⟨t0, t1, t2, t3, t4, t5⟩ := cells6 (HK1.out.below hb3 HK1.out.lt)
      have HB3 := Lib.hid (HB2.out.trans (hb3.mono HB2.out.size))
      clear hb3
      go_wp2_with fail
      go_ret
      exact ⟨by rw [HR.out]; rfl, HB3.out⟩
theorem cbs_cells {w : World} {A : Option Addr} {n c : Nat} {l : List Sp} (h : Sl w w.heap.size 3 A n c (cbs l)) {w' : World} (hb : Below w.heap.size w w') {k : Nat} {o : Sp} (ho : l[k]? = some o) (hn : l.length = n) : ∃ ad, A = some ad ∧
    w'.cell? (ad.add (k * 3)) = some (.int .u64 (o.own : Int)) ∧ w'.cell? ⟨(ad.add (k * 3)).block, (ad.add (k * 3)).off + 1, none⟩ = some (.int .u64 (o.xmax : Int)) ∧ w'.cell? ⟨(ad.add (k * 3)).block, (ad.add (k * 3)).off + 2, none⟩ = some (.slice o.B o.run.length o.d) := by
  have hk := (List.getElem?_eq_some_iff.1 ho).1
  obtain ⟨ad, hA, hat⟩ := h.at_ (by omega)
  have key : ∀ j y, o.cb[j]? = some y → j < 3 → w'.cell? (ad.add (k * 3 + j)) = some y := fun j y hy hj => (hat.below hb).2 (k * 3 + j) y (by rw [cbs_at l k o ho j hj]; exact hy)
  have e : ∀ j y, o.cb[j + 1]? = some y → j + 1 < 3 → w'.cell? ⟨(ad.add (k * 3)).block, (ad.add (k * 3)).off + (j + 1), none⟩ = some y := fun j y hy hj => by
    rw [← off_succ]
    exact key _ _ hy hj
  exact ⟨ad, hA, key 0 _ rfl (by omega), e 0 _ rfl (by omega), e 1 _ rfl (by omega)⟩
/-- a snapshot as it was taken -/
structure Okp (w : World) (s : Sp) : Prop where
  mem : SlU w s.B s.d s.run
  up : s.run.Pairwise (· < ·)
  lt : ∀ y ∈ s.run, y < s.xmax
  least : s.run.headD s.xmax = s.xmin
theorem Sp.okp {w : World} {S : List Nat} {s : Sp} (h : s.of S) (hm : SlU w s.B s.d s.run) : Okp w s := by
  obtain ⟨S0, h0, h1, h2, h3, h4⟩ := h
  refine ⟨hm, by rw [h1]; exact (runs_sorted S0 1).filter _, fun y hy => ?_, by rw [h1, h2, h3]; rfl⟩
  rw [h1] at hy
  rw [h3]
  exact (runs_ge (List.mem_filter.1 hy).1).2
theorem Okp.least_any {w : World} {s : Sp} (h : Okp w s) {rn : Nat} (hr : s.run.length = rn) : Calls Try.prog 47 #[.agg #[.int .u64 (s.own : Int), .int .u64 (s.xmax : Int), .slice s.B rn s.d]] w fun e w' => e = .returned (.int .u64 (s.xmin : Int)) ∧ Below w.heap.size w w' := by
  have := _root_.Go.Proofs.Ytnpmjljpaaaljaa.Clg.least_any (own := s.own) h.mem h.up h.lt
  rw [h.least, hr] at this
  exact this
set_option maxHeartbeats 2000000 in
theorem rhorizon_any (h : RF w F Q f S) {l : List Sp} {A : Option Addr} {n c : Nat} (hl : l.length = n) (hs : Sl w w.heap.size 3 A n c (cbs l)) (hok : ∀ s ∈ l, Okp w s) :
    Calls Try.prog 15 #[.pointer (some ⟨Q, 0, none⟩), .slice A n c] w fun e w' => e = .returned (.int .u64 (hzOf (f + S.length) (l.map Sp.xmin) : Int)) ∧ Below w.heap.size w w' := by
  have HS := Lib.hid hs
  have HL := Lib.hid hl
  have HOK : Hid (∀ W, Below w.heap.size w W → ∀ s ∈ l, Okp W s) := Lib.hid (fun W hb s hs => ⟨Sl.on (hok s hs).mem hb, (hok s hs).up, (hok s hs).lt, (hok s hs).least⟩)
  have hcap := hs.cap
  have hle := hs.le
  unfold maxLen at hcap
  by_cases hn0 : n = 0
  · subst hn0
    have hl0 : l = [] := List.eq_nil_of_length_eq_zero hl
    subst hl0
    have CN := Lib.hid (rnext_any h)
    have HZ : Hid (hzOf (f + S.length) (([] : List Sp).map Sp.xmin) = f + S.length) := Lib.hid rfl
    rw [HZ.out]
    generalize f + S.length = nx at *
    clear hs hl h hok
    go_enter Try.func15, Try.ntmps15
    go_wp2_with fail
    refine CN.out.mono ?_
    rintro e w1 ⟨rfl, hm⟩
    have HB := Lib.hid (belN hm)
    clear hm
    go_wp2_with fail
    go_ret
    exact ⟨rfl, HB.out⟩
  · obtain ⟨o0, ho0⟩ : ∃ o0, l[0]? = some o0 := ⟨_, List.getElem?_eq_getElem (by omega)⟩
    obtain ⟨ad, rfl, y0, y1, y2⟩ := cbs_cells hs (Below.refl _ _) ho0 hl
    have HZ : Hid (hzOf (f + S.length) (l.map Sp.xmin) = (l.map Sp.xmin).foldl min o0.xmin) := Lib.hid (by
      cases l with
      | nil => cases ho0
      | cons a l => simp at ho0; subst ho0; rfl)
    have e0 : ad.add (0 * 3) = ad := rfl
    rw [e0] at y0 y1 y2
    rw [HZ.out]
    have hn1 : ((n : Int) == 0) = false := by rw [beq_eq_false_iff_ne]; omega
    have hn2 : 0 < n := by omega
    obtain ⟨r0, hr0⟩ : ∃ r0, o0.run.length = r0 := ⟨_, rfl⟩
    have CL0 := Lib.hid ((HOK.out w (Below.refl _ _) o0 (List.mem_of_getElem? ho0)).least_any hr0)
    obtain ⟨m0, hm0⟩ : ∃ m0, o0.xmin = m0 := ⟨_, rfl⟩
    rw [hm0] at CL0
    rw [hm0]
    simp only [hr0] at y2
    obtain ⟨a1, a2, a3, a4, a5, a6, a7, a8⟩ := o0
    clear hs hl h ho0 e0 hn0 hm0 hr0 hok
    go_enter Try.func15, Try.ntmps15
    go_wp2_with fail
    refine CL0.out.mono ?_
    rintro e w1 ⟨rfl, hb1⟩
    have HB1 := Lib.hid hb1
    clear hb1 y0 y1 y2 CL0
    go_wp2_with fail
    go_loopw [5, 19] (fun v i wr => ∃ k : Nat, k ≤ n ∧ i = .int .i64 k ∧ v = .int .u64 (((l.take k).map Sp.xmin).foldl min m0 : Nat) ∧ Below w.heap.size w wr) (fun _ i _ => n - (intOf i).toNat)
    case atStart => exact ⟨0, by omega, rfl, rfl, HB1.out⟩
    case round =>
      obtain ⟨k, hk, rfl, rfl, hb⟩ := hrel
      have HB := Lib.hid hb
      clear hb
      by_cases hlt : k < n
      · have hlt' : (k : Int) < n := by omega
        obtain ⟨o, ho⟩ : ∃ o, l[k]? = some o := ⟨_, List.getElem?_eq_getElem (by have := HL.out; omega)⟩
        obtain ⟨ad', hA, y0, y1, y2⟩ := cbs_cells HS.out HB.out ho HL.out
        injection hA with hA
        subst hA
        have hm : (((l.take (k + 1)).map Sp.xmin).foldl min m0 : Nat) = min (((l.take k).map Sp.xmin).foldl min m0) o.xmin := by
          rw [show l.take (k + 1) = l.take k ++ [o] by rw [List.take_add_one, ho]; rfl, List.map_append]
          exact foldl_min_snoc _ _ _
        have HM := Lib.hid hm
        obtain ⟨rn, hrn⟩ : ∃ rn, o.run.length = rn := ⟨_, rfl⟩
        have CL : Hid (∀ W, Below w.heap.size w W → _) := Lib.hid (fun W hb => (HOK.out W hb o (List.mem_of_getElem? ho)).least_any hrn)
        simp only [hrn] at y2
        generalize ((l.take k).map Sp.xmin).foldl min m0 = m at *
        obtain ⟨ow, xm, xx, run, RA, rc, RB, rd⟩ := o
        clear ho hm hrn
        go_wp2_with fail
        clear y0 y1 y2
        have HB3 : Hid (Below w.heap.size w (wr.alloc (.cells #[.int .u64 (ow : Int), .int .u64 (xx : Int), .slice RB rn rd] 52))) := Lib.hid (bel_trans HB.out (bel_alloc _ _))
        have HK3 : Hid (Blk (wr.alloc (.cells #[.int .u64 (ow : Int), .int .u64 (xx : Int), .slice RB rn rd] 52)) wr.heap.size 52 #[.int .u64 (ow : Int), .int .u64 (xx : Int), .slice RB rn rd]) := Lib.hid (Blk.new _ _ _)
        refine (CL.out _ HB3.out).mono ?_
        rintro e w5 ⟨rfl, hb5⟩
        obtain ⟨s0, s1, s2⟩ := (cells3 (HK3.out.below hb5 HK3.out.lt)).1
        have HB5 := Lib.hid (bel_trans HB3.out hb5)
        clear hb5
        by_cases hmx : xm < m
        · have hmm : decide (xm < m) = true := by rw [decide_eq_true_eq]; exact hmx
          have hmm' : (xm : Int) < m := by omega
          have HMM : Hid (min m xm = xm) := Lib.hid (by omega)
          have CL2 := Lib.hid (CL.out w5 HB5.out)
          clear hmx
          go_wp2_with fail
          refine CL2.out.mono ?_
          rintro e w6 ⟨rfl, hb6⟩
          have HB6 := Lib.hid (bel_trans HB5.out hb6)
          clear hb6
          go_wp2_with fail
          go_roundw
          case rel => exact ⟨k + 1, by omega, by go_num, by rw [HM.out, HMM.out], HB6.out⟩
          case measure => simp [intOf]; omega
        · have hmm : decide (xm < m) = false := by rw [decide_eq_false_iff_not]; exact hmx
          have hmm' : ¬ (xm : Int) < m := by omega
          have HMM : Hid (min m xm = m) := Lib.hid (by omega)
          clear hmx
          go_wp2_with fail
          go_roundw
          case rel => exact ⟨k + 1, by omega, by go_num, by rw [HM.out, HMM.out], HB5.out⟩
          case measure => simp [intOf]; omega
      · obtain rfl : n = k := by omega
        have hm : l.take n = l := List.take_of_length_le (by have := HL.out; omega)
        have HM := Lib.hid hm
        clear hm
        go_wp2_with fail
        go_ret
        exact ⟨by rw [HM.out]; rfl, HB.out⟩
end
end Go.Proofs.Ytnpmjljpaaaljaa.Clg
