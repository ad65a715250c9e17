/- Page.Get where nothing is. -/
import Derived.Test.YtbpgjpopmohbmaaPageG
namespace Go.Proofs.Ytbpgjpopmohbmaa.Mem
open Go.RowKit Go.Proofs.Ytbpgjpopmohbmaa.Nums
set_option linter.unusedVariables false
set_option linter.unusedSimpArgs false
set_option maxRecDepth 100000
set_option maxHeartbeats 1000000
attribute [local go_sem] nil_nil some_nil
/-- Get, told by what 'at' tells: nothing is there -/
theorem get_none (A : Option Addr) (i : Int) (w : World) (h : ∀ w0, Below w.heap.size w w0 → Calls Try.prog 71 #[.pointer A, .int .i64 i] w0 fun e w' => e = .returned (.slice none 0 0) ∧ ∃ m, w' = w0.drewN m) :
    Calls Try.prog 26 #[.pointer A, .int .i64 i] w fun e w' => e = .returned (.tuple #[.agg #[.int .u64 0, .int .u64 0, .int .u64 0, .int .i64 0, .int .i64 0, .slice none 0 0], .bool false]) ∧ Below w.heap.size w w' := by
  have CA := Lib.hid (h (w.alloc (.cells #[.int .u64 0, .int .u64 0, .int .u64 0, .int .i64 0, .int .i64 0, .slice none 0 0] 33)) (bel_alloc _ _))
  have HT0 : Hid (∀ m, Blk ((w.alloc (.cells #[.int .u64 0, .int .u64 0, .int .u64 0, .int .i64 0, .int .i64 0, .slice none 0 0] 33)).drewN m) w.heap.size 33 #[.int .u64 0, .int .u64 0, .int .u64 0, .int .i64 0, .int .i64 0, .slice none 0 0]) := Lib.hid fun m => Blk.new w _ _
  have HBE0 : Hid (Below w.heap.size w (w.alloc (.cells #[.int .u64 0, .int .u64 0, .int .u64 0, .int .i64 0, .int .i64 0, .slice none 0 0] 33))) := Lib.hid (bel_alloc _ _)
  clear h
  go_enter Try.func26, Try.ntmps26
  go_wp2_with fail
  refine CA.out.mono ?_
  rintro e w2 ⟨rfl, m, rfl⟩
  obtain ⟨wz, hwz⟩ : ∃ wz, (w.alloc (.cells #[.int .u64 0, .int .u64 0, .int .u64 0, .int .i64 0, .int .i64 0, .slice none 0 0] 33)).drewN m = wz := ⟨_, rfl⟩
  have HT1 := Lib.hid (HT0.out m)
  have HBZ : Hid (Below w.heap.size w ((w.alloc (.cells #[.int .u64 0, .int .u64 0, .int .u64 0, .int .i64 0, .int .i64 0, .slice none 0 0] 33)).drewN m)) := Lib.hid ⟨HBE0.out.os, HBE0.out.tape, HBE0.out.output, HBE0.out.size, HBE0.out.block⟩
  rw [hwz] at HT1 HBZ ⊢
  have q0 := HT1.out.cell 0
  have q1 := HT1.out.cell 1
  have q2 := HT1.out.cell 2
  have q3 := HT1.out.cell 3
  have q4 := HT1.out.cell 4
  have q5 := HT1.out.cell 5
  have p0 := HT1.out.frozen 0
  have p1 := HT1.out.frozen 1
  have p2 := HT1.out.frozen 2
  have p3 := HT1.out.frozen 3
  have p4 := HT1.out.frozen 4
  have p5 := HT1.out.frozen 5
  clear hwz CA HT0
  go_wp2_with fail
  have HF := Lib.hid (Blk.put6 HT1.out (.int .u64 0) (.int .u64 0) (.int .u64 0) (.int .i64 0) (.int .i64 0) (.slice none 0 0))
  exact bodyPost_ret (get_ret HF.out rfl rfl) rfl ⟨rfl, Below.put6 HBZ.out (Nat.le_refl _) _ _ _ _ _ _⟩
theorem get_nil (i : Int) (w : World) : Calls Try.prog 26 #[.pointer none, .int .i64 i] w fun e w' => e = .returned (.tuple #[.agg #[.int .u64 0, .int .u64 0, .int .u64 0, .int .i64 0, .int .i64 0, .slice none 0 0], .bool false]) ∧ Below w.heap.size w w' := by
  refine get_none none i w fun w0 _ => ?_
  by_cases hi : i < 0
  · exact (at_nilneg i w0 hi).mono fun e w' ⟨h1, h2⟩ => ⟨h1, 0, h2.symm⟩
  · exact (at_nil i w0 hi).mono fun e w' ⟨h1, h2⟩ => ⟨h1, 0, h2.symm⟩
/-- .. of a page: beyond its slots, or of a free one -/
theorem get_off (P : Nat) (X : List UInt8) (i : Int) (w : World) (hp : Pg w P X) (hF : Fine X) (h : i < 0 ∨ (slN X : Int) ≤ i ∨ ∃ s : Nat, i = s ∧ s < slN X ∧ szS X s = 0) :
    Calls Try.prog 26 #[.pointer (some ⟨P, 0, none⟩), .int .i64 i] w fun e w' => e = .returned (.tuple #[.agg #[.int .u64 0, .int .u64 0, .int .u64 0, .int .i64 0, .int .i64 0, .slice none 0 0], .bool false]) ∧ Below w.heap.size w w' := by
  refine get_none (some ⟨P, 0, none⟩) i w fun w0 hb => ?_
  have hp0 : Pg w0 P X := ⟨Blk.below hp.1 hb (Blk.lt hp.1), hp.2⟩
  by_cases hi : i < 0
  · exact (at_neg P i w0 hi).mono fun e w' ⟨h1, h2⟩ => ⟨h1, 0, h2.symm⟩
  rcases h with h | h | ⟨s, rfl, hs, hz⟩
  · exact absurd h hi
  · exact (at_over P X i w0 hp0 hi h).mono fun e w' ⟨h1, h2⟩ => ⟨h1, 0, h2.symm⟩
  · have h := at_pg P s X w0 hp0 hF hs
    rw [atV_free hz] at h
    exact h
end Go.Proofs.Ytbpgjpopmohbmaa.Mem
