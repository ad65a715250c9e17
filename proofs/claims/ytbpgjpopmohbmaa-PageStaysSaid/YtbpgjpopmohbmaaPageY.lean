/- lapidaryref05's Same of two that are alike; Few. -/
import Derived.Test.YtbpgjpopmohbmaaPageX
namespace Go.Proofs.Ytbpgjpopmohbmaa.Mem
open Go.RowKit Go.Proofs.Ytbpgjpopmohbmaa.Nums
set_option linter.unusedVariables false
set_option linter.unusedSimpArgs false
set_option maxRecDepth 100000
set_option maxHeartbeats 1000000
theorem samet_yes (r a b : Nat) (p s : Int) (A A' : Option Addr) (n c n' c' : Nat) (x : List UInt8) (w : World) (hx : Sl w w.heap.size 1 A n c (u8s x)) (hy : Sl w w.heap.size 1 A' n' c' (u8s x)) :
    Calls Try.prog 28 #[.agg #[.int .u64 r, .int .u64 a, .int .u64 b, .int .i64 p, .int .i64 s, .slice A n c], .agg #[.int .u64 r, .int .u64 a, .int .u64 b, .int .i64 p, .int .i64 s, .slice A' n' c']] w fun e w' => e = .returned (.bool true) ∧ Below w.heap.size w w' := by
  have HB : Hid (Below w.heap.size w ((w.alloc (.cells #[.int .u64 r, .int .u64 a, .int .u64 b, .int .i64 p, .int .i64 s, .slice A n c] 33)).alloc (.cells #[.int .u64 r, .int .u64 a, .int .u64 b, .int .i64 p, .int .i64 s, .slice A' n' c'] 33))) := Lib.hid (bel_trans (bel_alloc _ _) (bel_alloc _ _))
  have HX := Lib.hid (hx.on HB.out)
  have HY := Lib.hid (hy.on HB.out)
  clear hx hy
  go_enter Try.func28, Try.ntmps28
  go_wp2_with fail
  refine (same_any x x A n c A' n' c' _ HX.out HY.out).mono ?_
  rintro e w2 ⟨rfl, rfl⟩
  simp only [decide_true]
  go_wp2_with fail
  go_ret
  exact ⟨rfl, HB.out⟩
/-- the zero version, told where nothing is -/
theorem few_ret {w : World} {b : Nat} {v0 v1 v2 v3 v4 v5 : Value} {tmps : Array Value} (h : Blk w b 33 #[v0, v1, v2, v3, v4, v5]) (h4 : tmps.getD 2 undef = .pointer (some ⟨b, 0, none⟩)) :
    (results Try.f37 tmps).run Try.prog w = .ok (.agg #[v0, v1, v2, v3, v4, v5]) w := by
  have r0 := h.cell 0
  have r1 := h.cell 1
  have r2 := h.cell 2
  have r3 := h.cell 3
  have r4 := h.cell 4
  have r5 := h.cell 5
  simp at r0 r1 r2 r3 r4 r5
  simp only [Array.getD_eq_getD_getElem?] at h4
  simp [results, Try.results37, go_sem, h4, r0, r1, r2, r3, r4, r5]
theorem few_any (r a b : Nat) (p s : Int) (A : Option Addr) (n c : Nat) (x : List UInt8) (w : World) (hx : Sl w w.heap.size 1 A n c (u8s x)) :
    Calls Try.prog 37 #[.agg #[.int .u64 r, .int .u64 a, .int .u64 b, .int .i64 p, .int .i64 s, .slice A n c]] w fun e w' => ∃ v, e = .returned (.agg #[.int .u64 r, .int .u64 a, .int .u64 b, .int .i64 p, .int .i64 s, v]) ∧ OwnB w' w.heap.size v (min n 230) (u8s (x.take 230)) ∧ Below w.heap.size w w' := by
  have HBB : Hid (Below w.heap.size w ((w.alloc (.cells #[.int .u64 r, .int .u64 a, .int .u64 b, .int .i64 p, .int .i64 s, .slice A n c] 33)).alloc (.cells #[.int .u64 0, .int .u64 0, .int .u64 0, .int .i64 0, .int .i64 0, .slice none 0 0] 33))) := Lib.hid (bel_trans (bel_alloc _ _) (bel_alloc _ _))
  have HX := Lib.hid (hx.on HBB.out)
  have C := Lib.hid (cut_any x A n c 230 _ HX.out (by omega))
  clear hx
  go_enter Try.func37, Try.ntmps37
  go_wp2_with fail
  refine C.out.mono ?_
  rintro e w2 ⟨v, rfl, hown, hb2⟩
  obtain ⟨Av, cv, hv, hsv⟩ := Sl.of_own hown
  subst hv
  obtain ⟨wz, hwz⟩ : ∃ wz, (w.alloc (.cells #[.int .u64 r, .int .u64 a, .int .u64 b, .int .i64 p, .int .i64 s, .slice A n c] 33)).alloc (.cells #[.int .u64 0, .int .u64 0, .int .u64 0, .int .i64 0, .int .i64 0, .slice none 0 0] 33) = wz := ⟨_, rfl⟩
  have hzs : wz.heap.size = w.heap.size + 2 := by rw [← hwz, size_alloc, size_alloc]
  have hk0 : Blk wz w.heap.size 33 #[.int .u64 r, .int .u64 a, .int .u64 b, .int .i64 p, .int .i64 s, .slice A n c] := by rw [← hwz]; exact Blk.alloc (Blk.new w _ _) _
  have hk1 : Blk wz (w.heap.size + 1) 33 #[.int .u64 0, .int .u64 0, .int .u64 0, .int .i64 0, .int .i64 0, .slice none 0 0] := by
    rw [← hwz]
    have h := Blk.new (w.alloc (.cells #[.int .u64 r, .int .u64 a, .int .u64 b, .int .i64 p, .int .i64 s, .slice A n c] 33)) 33 #[.int .u64 0, .int .u64 0, .int .u64 0, .int .i64 0, .int .i64 0, .slice none 0 0]
    rwa [size_alloc] at h
  rw [hwz] at hb2 hown HBB
  rw [hzs] at hown hb2
  have HK0 := Lib.hid (Blk.below hk0 hb2 (by omega))
  have HK1 := Lib.hid (Blk.below hk1 hb2 (by omega))
  have HOWN := Lib.hid hown
  have HB2 := Lib.hid (HBB.out.trans (hb2.mono (by omega)))
  have x0 := HK0.out.cell 0
  have x1 := HK0.out.cell 1
  have x2 := HK0.out.cell 2
  have x3 := HK0.out.cell 3
  have x4 := HK0.out.cell 4
  have x5 := HK0.out.cell 5
  have f5 := HK0.out.frozen 5
  have HK2 := Lib.hid (Blk.set_ HK0.out 5 (.slice Av (min n 230) cv))
  have HK3 := Lib.hid (Blk.far HK1.out (p := ⟨w.heap.size, 5, none⟩) (by show w.heap.size + 1 ≠ w.heap.size; omega) (.slice Av (min n 230) cv))
  have q0 := HK3.out.cell 0
  have q1 := HK3.out.cell 1
  have q2 := HK3.out.cell 2
  have q3 := HK3.out.cell 3
  have q4 := HK3.out.cell 4
  have q5 := HK3.out.cell 5
  have p0 := HK3.out.frozen 0
  have p1 := HK3.out.frozen 1
  have p2 := HK3.out.frozen 2
  have p3 := HK3.out.frozen 3
  have p4 := HK3.out.frozen 4
  have p5 := HK3.out.frozen 5
  have z0 := HK2.out.cell 0
  have z1 := HK2.out.cell 1
  have z2 := HK2.out.cell 2
  have z3 := HK2.out.cell 3
  have z4 := HK2.out.cell 4
  have z5 := HK2.out.cell 5
  simp at z0 z1 z2 z3 z4 z5
  clear hwz hk0 hk1 hown hb2 hsv C HX
  go_wp2_with fail
  have HF := Lib.hid (Blk.put6 HK3.out (.int .u64 r) (.int .u64 a) (.int .u64 b) (.int .i64 p) (.int .i64 s) (.slice Av (min n 230) cv))
  exact bodyPost_ret (few_ret HF.out rfl) rfl ⟨_, rfl, own_keep (own_mono HOWN.out (by omega)) (fun k hk => by
    have h1 := (HOWN.out.lt k hk).1
    exact (put6_other _ _ _ _ _ _ _ _ k (by omega)).trans (Below.heap_setCell _ ⟨w.heap.size, 5, none⟩ _ k (by show k ≠ w.heap.size; omega))), Below.put6 (HB2.out.setCell (p := ⟨w.heap.size, 5, none⟩) (Nat.le_refl _) _) (by omega) _ _ _ _ _ _⟩
end Go.Proofs.Ytbpgjpopmohbmaa.Mem
