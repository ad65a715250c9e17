/- snap.Take. -/
import Derived.Test.YtnpmjljpaaaljaaSnapB
namespace Go.Proofs.Ytnpmjljpaaaljaa.Clg
open Go.ChangeMaps Go.MapKept Go.RowKit Go.Proofs.Ytnpmjljpaaaljaa.Nums Go.Proofs.Ytnpmjljpaaaljaa.Mem
set_option linter.unusedVariables false
set_option linter.unusedSimpArgs false
set_option maxRecDepth 100000
theorem put4 {w : World} {g : Nat} {t : TypeId} {a0 a1 a2 a3 b0 b1 b2 b3 : Value} (h : Blk w g t #[a0, a1, a2, a3]) : Blk ((((w.setCell ⟨g, 0, none⟩ b0).setCell ⟨g, 1, none⟩ b1).setCell ⟨g, 2, none⟩ b2).setCell ⟨g, 3, none⟩ b3) g t #[b0, b1, b2, b3] ∧ (∀ k, k ≠ g → ((((w.setCell ⟨g, 0, none⟩ b0).setCell ⟨g, 1, none⟩ b1).setCell ⟨g, 2, none⟩ b2).setCell ⟨g, 3, none⟩ b3).heap[k]? = w.heap[k]?) := by
  refine ⟨(((h.set_ 0 b0).set_ 1 b1).set_ 2 b2).set_ 3 b3, fun k hk => ?_⟩
  exact (Below.heap_setCell _ _ _ k hk).trans ((Below.heap_setCell _ _ _ k hk).trans ((Below.heap_setCell _ _ _ k hk).trans (Below.heap_setCell _ _ _ k hk)))
theorem take_end {w w4 : World} {f own xm nx : Nat} {S R : List Nat} {A : Option Addr} {c n B : Nat} (HR : runX f S own = R) (HN : R.length = n) (HX : xminOf f S own = xm) (HNX : f + S.length = nx) (hB : w.heap.size ≤ B)
    (HO : OwnU w4 B (.slice A R.length c) R.length (u64s R)) (HB4 : Below w.heap.size w w4) (HK4 : Blk w4 (w.heap.size + 1) 48 #[.int .u64 0, .int .u64 0, .int .u64 0, .slice none 0 0]) {v : Value} (hv : v = .slice A n c) :
    TakeP w f S own (.returned (.agg #[.int .u64 (own : Int), .int .u64 (xm : Int), .int .u64 (nx : Int), v])) ((((w4.setCell ⟨w.heap.size + 1, 0, none⟩ (.int .u64 (own : Int))).setCell ⟨w.heap.size + 1, 1, none⟩ (.int .u64 (xm : Int))).setCell ⟨w.heap.size + 1, 2, none⟩ (.int .u64 (nx : Int))).setCell ⟨w.heap.size + 1, 3, none⟩ v) := by
  subst hv HN HX HNX
  have hp := put4 (b0 := .int .u64 (own : Int)) (b1 := .int .u64 (xminOf f S own : Int)) (b2 := .int .u64 ((f + S.length : Nat) : Int)) (b3 := .slice A R.length c) HK4
  have ho := own_keep HO (w' := _) fun g hg => hp.2 g (fun e => own_blk_ne HO HK4 (by decide) (by rw [hg, e]))
  obtain ⟨A', c', e', hs⟩ := Sl.of_own ho
  injection e' with e1 _ e2
  subst e1 e2
  subst HR
  refine ⟨A, c, rfl, hs, fun ad h0 hA => ?_, ((((HB4.setCell (by show w.heap.size ≤ w.heap.size + 1; omega) _).setCell (by show w.heap.size ≤ w.heap.size + 1; omega) _).setCell (by show w.heap.size ≤ w.heap.size + 1; omega) _).setCell (by show w.heap.size ≤ w.heap.size + 1; omega) _)⟩
  subst hA
  have := (HO.lt ad.block rfl).1
  omega
set_option maxHeartbeats 1000000 in
theorem take_any {w : World} {F : Nat → Prop} {P f : Nat} {S : List Nat} (h : LF w F P f S) (own : Nat) : Calls Try.prog 29 #[.pointer (some ⟨P, 0, none⟩), .int .u64 (own : Int)] w (TakeP w f S own) := by
  have HL := Lib.hid h
  obtain ⟨nx, hnx⟩ : ∃ nx, f + S.length = nx := ⟨_, rfl⟩
  have HNX := Lib.hid hnx
  obtain ⟨W2, hW2⟩ : ∃ W2, W2 = (w.alloc (.cells #[.int .u64 (own : Int)] 28)).alloc (.cells #[.int .u64 0, .int .u64 0, .int .u64 0, .slice none 0 0] 48) := ⟨_, rfl⟩
  have hl2 : LF W2 F P f S := by rw [hW2]; exact (h.alloc _).alloc _
  have hb2 : Below w.heap.size w W2 := by rw [hW2]; exact (bel_alloc _ _).alloc (by rw [size_alloc]; omega) _
  have hk0 : Blk W2 w.heap.size 28 #[.int .u64 (own : Int)] := by rw [hW2]; exact (Blk.new w _ _).alloc _
  have hk1 : Blk W2 (w.heap.size + 1) 48 #[.int .u64 0, .int .u64 0, .int .u64 0, .slice none 0 0] := by
    rw [hW2]
    have := Blk.new (w.alloc (.cells #[.int .u64 (own : Int)] 28)) 48 #[.int .u64 0, .int .u64 0, .int .u64 0, .slice none 0 0]
    rw [size_alloc] at this
    exact this
  have CN := next_any hl2
  rw [hnx] at CN
  have CN := Lib.hid CN
  have CA := Lib.hid (all_any hl2)
  have HW := Lib.hid hW2
  have HB2 := Lib.hid hb2
  have HK0 := Lib.hid hk0
  have HK1 := Lib.hid hk1
  have HRS := Lib.hid (runs_sorted S f)
  clear h hnx hW2 hl2 hb2 hk0 hk1
  go_enter Try.func29, Try.ntmps29
  go_wp2_with fail
  rw [← HW.out]
  refine CN.out.mono ?_
  rintro e w3 ⟨rfl, rfl⟩
  go_wp2_with fail
  refine CA.out.mono ?_
  rintro e w3 ⟨A3, c3, rfl, ho3, hb3⟩
  have xa : w3.cell? ⟨w.heap.size, 0, none⟩ = some (.int .u64 (own : Int)) := (HK0.out.below hb3 HK0.out.lt).cell 0
  have CD := Lib.hid (delf_any HRS.out ho3 hb3 xa HK0.out.lt)
  clear ho3 hb3 xa
  unfold clo at CD
  go_wp2_with fail
  refine CD.out.mono ?_
  rintro e w4 ⟨rfl, ho4, hb4⟩
  obtain ⟨R, hR⟩ : ∃ R, (runs f S).filter (fun y => y != own) = R := ⟨_, rfl⟩
  have HR : Hid (runX f S own = R) := Lib.hid hR
  rw [hR] at ho4
  rw [hR]
  obtain ⟨A', c', e', hs4⟩ := Sl.of_own ho4
  injection e' with e1 _ e2
  subst e1 e2
  have HS4 : Hid (SlU w4 A3 c3 R) := Lib.hid hs4
  have HO4 := Lib.hid ho4
  have hcap := hs4.cap
  have hle := hs4.le
  unfold maxLen at hcap
  have HB4 := Lib.hid (HB2.out.trans (hb4.mono HB2.out.size))
  have y0 := (HK0.out.below hb4 HK0.out.lt).cell 0
  have hk4 := HK1.out.below hb4 HK1.out.lt
  have z0 := hk4.cell 0
  have z1 := hk4.cell 1
  have z2 := hk4.cell 2
  have z3 := hk4.cell 3
  have f0 := hk4.frozen 0
  have f1 := hk4.frozen 1
  have f2 := hk4.frozen 2
  have f3 := hk4.frozen 3
  have HK4 := Lib.hid hk4
  clear ho4 hb4 hR hs4 hk4
  obtain ⟨n, hn⟩ : ∃ n, R.length = n := ⟨_, rfl⟩
  have HN := Lib.hid hn
  rw [hn] at hle
  rw [hn]
  clear hn
  by_cases hn0 : 0 < n
  · obtain ⟨y, hy⟩ : ∃ y, R[0]? = some y := ⟨_, List.getElem?_eq_getElem (by have := HN.out; omega)⟩
    obtain ⟨ad, rfl, u0⟩ := HS4.out.at_ hy
    have u0 : w4.cell? ad = some (.int .u64 (y : Int)) := u0
    have HX : Hid (xminOf f S own = y) := Lib.hid (by
      unfold xminOf
      rw [HR.out]
      cases hq : R with
      | nil => rw [hq] at hy; cases hy
      | cons a l => rw [hq] at hy; simp at hy; subst hy; rfl)
    clear hy
    go_wp2_with fail
    have he := take_end (w := w) HR.out HN.out HX.out HNX.out (by have := HB2.out.size; exact this) HO4.out HB4.out HK4.out rfl
    have hp := put4 (b0 := .int .u64 (own : Int)) (b1 := .int .u64 (y : Int)) (b2 := .int .u64 (nx : Int)) (b3 := .slice (some ad) n c3) HK4.out
    have s0 := hp.1.cell 0
    have s1 := hp.1.cell 1
    have s2 := hp.1.cell 2
    have s3 := hp.1.cell 3
    exact bodyPost_ret (v := .agg #[.int .u64 (own : Int), .int .u64 (y : Int), .int .u64 (nx : Int), .slice (some ad) n c3]) (by simp [results, Try.results29, go_sem, s0, s1, s2, s3]) rfl he
  · obtain rfl : n = 0 := by omega
    have HX : Hid (xminOf f S own = nx) := Lib.hid (by
      unfold xminOf
      rw [HR.out, List.eq_nil_of_length_eq_zero HN.out, ← HNX.out]
      rfl)
    go_wp2_with fail
    have he := take_end (w := w) HR.out HN.out HX.out HNX.out (by have := HB2.out.size; exact this) HO4.out HB4.out HK4.out rfl
    have hp := put4 (b0 := .int .u64 (own : Int)) (b1 := .int .u64 (nx : Int)) (b2 := .int .u64 (nx : Int)) (b3 := .slice A3 0 c3) HK4.out
    have s0 := hp.1.cell 0
    have s1 := hp.1.cell 1
    have s2 := hp.1.cell 2
    have s3 := hp.1.cell 3
    exact bodyPost_ret (v := .agg #[.int .u64 (own : Int), .int .u64 (nx : Int), .int .u64 (nx : Int), .slice A3 0 c3]) (by simp [results, Try.results29, go_sem, s0, s1, s2, s3]) rfl he
end Go.Proofs.Ytnpmjljpaaaljaa.Clg
