/- snap.Visible, Dead, Free. -/
import Derived.Test.YtnpmjljpaaaljaaSnapD
namespace Go.Proofs.Ytnpmjljpaaaljaa.Clg
open Go.ChangeMaps Go.MapKept Go.RowKit Go.Proofs.Ytnpmjljpaaaljaa.Nums Go.Proofs.Ytnpmjljpaaaljaa.Mem
set_option linter.unusedVariables false
set_option linter.unusedSimpArgs false
set_option maxRecDepth 100000
section
variable {w w' : World} {F : Nat → Prop} {P f : Nat} {S : List Nat}
theorem cells4 {w : World} {g : Nat} {t : TypeId} {a b c d : Value} (h : Blk w g t #[a, b, c, d]) : w.cell? ⟨g, 0, none⟩ = some a ∧ w.cell? ⟨g, 1, none⟩ = some b ∧ w.cell? ⟨g, 2, none⟩ = some c ∧ w.cell? ⟨g, 3, none⟩ = some d := ⟨h.cell 0, h.cell 1, h.cell 2, h.cell 3⟩
theorem cells6 {w : World} {g : Nat} {t : TypeId} {a b c d e k : Value} (h : Blk w g t #[a, b, c, d, e, k]) : w.cell? ⟨g, 0, none⟩ = some a ∧ w.cell? ⟨g, 1, none⟩ = some b ∧ w.cell? ⟨g, 2, none⟩ = some c ∧ w.cell? ⟨g, 3, none⟩ = some d ∧ w.cell? ⟨g, 4, none⟩ = some e ∧ w.cell? ⟨g, 5, none⟩ = some k := ⟨h.cell 0, h.cell 1, h.cell 2, h.cell 3, h.cell 4, h.cell 5⟩
set_option maxHeartbeats 1000000 in
theorem visible_any (h : LF w F P f S) (hS : ∀ s ∈ S, 1 ≤ s ∧ s ≤ 3) {own xmin xmax : Nat} {run : List Nat} {A : Option Addr} {c : Nat} (hs : SlU w A c run) {a b : Nat} (ha : a < 18446744073709551616) (hb : b < 18446744073709551616) :
    Calls Try.prog 21 #[.pointer (some ⟨P, 0, none⟩), .agg #[.int .u64 (own : Int), .int .u64 (xmin : Int), .int .u64 (xmax : Int), .slice A run.length c], tupV a b] w (BoolP w (visB f S own xmax run a b)) := by
  obtain ⟨W2, hW2⟩ : ∃ W2, W2 = (w.alloc (.cells #[.int .u64 (own : Int), .int .u64 (xmin : Int), .int .u64 (xmax : Int), .slice A run.length c] 48)).alloc (.cells #[.int .u64 0, .int .u64 (a : Int), .int .u64 (b : Int), .int .i64 0, .int .i64 0, .slice none 0 0] 42) := ⟨_, rfl⟩
  have HB2 : Hid (Below w.heap.size w W2) := Lib.hid (by rw [hW2]; exact (bel_alloc _ _).alloc (by rw [size_alloc]; omega) _)
  have hl2 : LF W2 F P f S := by rw [hW2]; exact (h.alloc _).alloc _
  have hs2 : SlU W2 A c run := by rw [hW2]; exact Sl.on (Sl.on hs (bel_alloc _ _)) (bel_alloc _ _)
  have hk0 : Blk W2 w.heap.size 48 #[.int .u64 (own : Int), .int .u64 (xmin : Int), .int .u64 (xmax : Int), .slice A run.length c] := by rw [hW2]; exact (Blk.new w _ _).alloc _
  have hk1 : Blk W2 (w.heap.size + 1) 42 #[.int .u64 0, .int .u64 (a : Int), .int .u64 (b : Int), .int .i64 0, .int .i64 0, .slice none 0 0] := by
    rw [hW2]
    have := Blk.new (w.alloc (.cells #[.int .u64 (own : Int), .int .u64 (xmin : Int), .int .u64 (xmax : Int), .slice A run.length c] 48)) 42 #[.int .u64 0, .int .u64 (a : Int), .int .u64 (b : Int), .int .i64 0, .int .i64 0, .slice none 0 0]
    rw [size_alloc] at this
    exact this
  have CSa := Lib.hid (sees_any hl2 hS (own := own) (xmin := xmin) (xmax := xmax) hs2 ha)
  have CSb := Lib.hid (fun W (hw : Below W2.heap.size W2 W) => sees_any (hl2.below hw) hS (own := own) (xmin := xmin) (xmax := xmax) (Sl.on hs2 hw) hb)
  have HK0 := Lib.hid hk0
  have HK1 := Lib.hid hk1
  have HW := Lib.hid hW2
  obtain ⟨n, hn⟩ : ∃ n, run.length = n := ⟨_, rfl⟩
  have HV : Hid (visB f S own xmax run a b = (seesB f S own xmax run a && (b == 0 || !seesB f S own xmax run b))) := Lib.hid rfl
  obtain ⟨p, hp⟩ : ∃ p, seesB f S own xmax run a = p := ⟨_, rfl⟩
  obtain ⟨q, hq⟩ : ∃ q, seesB f S own xmax run b = q := ⟨_, rfl⟩
  rw [hp] at CSa
  rw [hq] at CSb
  rw [hp, hq] at HV
  unfold tupV
  rw [hn] at CSa CSb HK0 HW
  rw [hn]
  clear h hS hs ha hW2 hl2 hs2 hk0 hk1 hp hq hn
  have hb' : b < 18446744073709551616 := hb
  have hbi : (0 : Int) ≤ b := by omega
  clear hb
  cases p
  · have HR : Hid (visB f S own xmax run a b = false) := Lib.hid (by rw [HV.out]; rfl)
    clear hb' hbi
    go_enter Try.func21, Try.ntmps21
    go_wp2_with fail
    rw [← HW.out]
    refine CSa.out.mono ?_
    rintro e w3 ⟨rfl, hb3⟩
    have HB3 := Lib.hid (HB2.out.trans (hb3.mono HB2.out.size))
    clear hb3
    go_wp2_with fail
    go_ret
    exact ⟨by rw [HR.out]; rfl, HB3.out⟩
  · by_cases hb0 : b = 0
    · have HR : Hid (visB f S own xmax run a b = true) := Lib.hid (by rw [HV.out, hb0]; rfl)
      have hb1 : ((b : Int) == 0) = true := by rw [beq_iff_eq]; omega
      clear hb' hbi hb0
      go_enter Try.func21, Try.ntmps21
      go_wp2_with fail
      rw [← HW.out]
      refine CSa.out.mono ?_
      rintro e w3 ⟨rfl, hb3⟩
      obtain ⟨t0, t1, t2, t3, t4, t5⟩ := cells6 (HK1.out.below hb3 HK1.out.lt)
      have HB3 := Lib.hid (HB2.out.trans (hb3.mono HB2.out.size))
      clear hb3
      go_wp2_with fail
      go_ret
      exact ⟨by rw [HR.out]; rfl, HB3.out⟩
    · have HR : Hid (visB f S own xmax run a b = !q) := Lib.hid (by rw [HV.out, beq_eq_false_iff_ne.2 hb0]; rfl)
      have hb1 : ((b : Int) == 0) = false := by rw [beq_eq_false_iff_ne]; omega
      clear hb' hbi hb0
      go_enter Try.func21, Try.ntmps21
      go_wp2_with fail
      rw [← HW.out]
      refine CSa.out.mono ?_
      rintro e w3 ⟨rfl, hb3⟩
      obtain ⟨t0, t1, t2, t3, t4, t5⟩ := cells6 (HK1.out.below hb3 HK1.out.lt)
      obtain ⟨s0, s1, s2, s3⟩ := cells4 (HK0.out.below hb3 HK0.out.lt)
      have HB3 := Lib.hid (HB2.out.trans (hb3.mono HB2.out.size))
      have CS2 := Lib.hid (CSb.out _ hb3)
      clear hb3
      go_wp2_with fail
      refine CS2.out.mono ?_
      rintro e w4 ⟨rfl, hb4⟩
      have HB4 := Lib.hid (HB3.out.trans (hb4.mono HB3.out.size))
      clear hb4
      go_wp2_with fail
      go_ret
      exact ⟨by rw [HR.out]; rfl, HB4.out⟩
set_option maxHeartbeats 1000000 in
theorem dead_any (h : LF w F P f S) (hS : ∀ s ∈ S, 1 ≤ s ∧ s ≤ 3) {a b z : Nat} (ha : a < 18446744073709551616) (hb : b < 18446744073709551616) :
    Calls Try.prog 17 #[.pointer (some ⟨P, 0, none⟩), tupV a b, .int .u64 (z : Int)] w (BoolP w (deadB f S a b z)) := by
  obtain ⟨W2, hW2⟩ : ∃ W2, W2 = w.alloc (.cells #[.int .u64 0, .int .u64 (a : Int), .int .u64 (b : Int), .int .i64 0, .int .i64 0, .slice none 0 0] 42) := ⟨_, rfl⟩
  have HB2 : Hid (Below w.heap.size w W2) := Lib.hid (by rw [hW2]; exact bel_alloc _ _)
  have hl2 : LF W2 F P f S := by rw [hW2]; exact h.alloc _
  have hk1 : Blk W2 w.heap.size 42 #[.int .u64 0, .int .u64 (a : Int), .int .u64 (b : Int), .int .i64 0, .int .i64 0, .slice none 0 0] := by rw [hW2]; exact Blk.new w _ _
  have CSa := Lib.hid (state_any hl2 hS ha)
  have CSb := Lib.hid (fun W (hw : Below W2.heap.size W2 W) => state_any (hl2.below hw) hS hb)
  have HK1 := Lib.hid hk1
  have HW := Lib.hid hW2
  have HV : Hid (deadB f S a b z = (stOf f S a == 3 || (decide (b < z) && (stOf f S b == 2)))) := Lib.hid rfl
  obtain ⟨p, hp⟩ : ∃ p, stOf f S a = p := ⟨_, rfl⟩
  obtain ⟨q, hq⟩ : ∃ q, stOf f S b = q := ⟨_, rfl⟩
  rw [hp] at CSa
  rw [hq] at CSb
  rw [hp, hq] at HV
  unfold tupV
  clear h hS ha hb hW2 hl2 hk1 hp hq
  by_cases hp3 : p = 3
  · subst hp3
    have HR : Hid (deadB f S a b z = true) := Lib.hid (by rw [HV.out]; rfl)
    go_enter Try.func17, Try.ntmps17
    go_wp2_with fail
    rw [← HW.out]
    refine CSa.out.mono ?_
    rintro e w3 ⟨rfl, hb3⟩
    have HB3 := Lib.hid (HB2.out.trans (hb3.mono HB2.out.size))
    clear hb3
    go_wp2_with fail
    go_ret
    exact ⟨by rw [HR.out]; rfl, HB3.out⟩
  · have hp3' : ((p : Int) == 3) = false := by rw [beq_eq_false_iff_ne]; omega
    by_cases hbz : b < z
    · have hbz' : decide (b < z) = true := by simpa using hbz
      have HR : Hid (deadB f S a b z = (q == 2)) := Lib.hid (by rw [HV.out, beq_eq_false_iff_ne.2 hp3, hbz']; rfl)
      have he : ((q : Int) == 2) = (q == 2) := by
        by_cases e : q = 2
        · subst e; rfl
        · rw [beq_eq_false_iff_ne.2 e, beq_eq_false_iff_ne]; omega
      have HE := Lib.hid he
      clear he hbz hp3
      go_enter Try.func17, Try.ntmps17
      go_wp2_with fail
      rw [← HW.out]
      refine CSa.out.mono ?_
      rintro e w3 ⟨rfl, hb3⟩
      obtain ⟨t0, t1, t2, t3, t4, t5⟩ := cells6 (HK1.out.below hb3 HK1.out.lt)
      have HB3 := Lib.hid (HB2.out.trans (hb3.mono HB2.out.size))
      have CS2 := Lib.hid (CSb.out _ hb3)
      clear hb3
      go_wp2_with fail
      refine CS2.out.mono ?_
      rintro e w4 ⟨rfl, hb4⟩
      have HB4 := Lib.hid (HB3.out.trans (hb4.mono HB3.out.size))
      clear hb4
      go_wp2_with fail
      go_ret
      exact ⟨by rw [HR.out, ← HE.out]; rfl, HB4.out⟩
    · have hbz' : decide (b < z) = false := by simpa using hbz
      have HR : Hid (deadB f S a b z = false) := Lib.hid (by rw [HV.out, beq_eq_false_iff_ne.2 hp3, hbz']; rfl)
      clear hbz hp3
      go_enter Try.func17, Try.ntmps17
      go_wp2_with fail
      rw [← HW.out]
      refine CSa.out.mono ?_
      rintro e w3 ⟨rfl, hb3⟩
      obtain ⟨t0, t1, t2, t3, t4, t5⟩ := cells6 (HK1.out.below hb3 HK1.out.lt)
      have HB3 := Lib.hid (HB2.out.trans (hb3.mono HB2.out.size))
      clear hb3
      go_wp2_with fail
      go_ret
      exact ⟨by rw [HR.out]; rfl, HB3.out⟩
end
end Go.Proofs.Ytnpmjljpaaaljaa.Clg
