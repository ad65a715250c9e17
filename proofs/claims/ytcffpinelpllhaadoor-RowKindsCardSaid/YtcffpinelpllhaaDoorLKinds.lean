/- RowKinds: its walk. -/
import Derived.Test.YtcffpinelpllhaaDoorAwakeR
namespace Go.Proofs.YtcffpinelpllhaaDoor.Mem
open Go.RowKit Go.Proofs.YtcffpinelpllhaaDoor.Nums
open Go.Proofs.YtcffpinelpllhaaDoor.Cell (U8)
set_option linter.unusedVariables false
set_option linter.unusedSimpArgs false
set_option maxRecDepth 100000
def KB (a : Int) : UInt8 := UInt8.ofNat (1 + a.toNat % 3)
theorem kb_int (a : Int) (h0 : 0 ≤ a) : ((KB a).toNat : Int) = 1 + a % 3 := by
  unfold KB
  rw [UInt8.toNat_ofNat']
  omega
theorem kb_ok (a : Int) : ksOk [KB a] = true := by
  have h : a.toNat % 3 = 0 ∨ a.toNat % 3 = 1 ∨ a.toNat % 3 = 2 := by omega
  unfold KB
  rcases h with h | h | h <;> rw [h] <;> rfl
theorem kinds_fit (a : Int) (v : V) : fitsE [KB a] [v] = if v.right then (if off1 v (KB a) then 8 else 0) else 3 := by
  unfold fitsE
  rw [kb_ok]
  have e1 : ([v] : List V).all V.right = v.right := by simp
  have e2 : offs [v] [KB a] = off1 v (KB a) := by unfold offs; simp
  rw [e1, e2]
  cases hr : v.right
  · rfl
  · have hs : ¬ 200 < rSize [v] := by
      have := rLen_le hr
      unfold rSize
      simp
      omega
    rw [if_neg hs]
    rfl
theorem kinds_walk (w : World) (a : Int) (k i : Int) (s : ByteArray) (b : Bool) (ha0 : 0 ≤ a) (ha : a ≤ 255) (hv : (⟨k, i, s, b⟩ : V).ok) (hU : U8 w) :
    Calls Tryd.prog 14 #[.int .u8 a, .agg #[.int .u8 k, .int .i64 i, .string s, .bool b]] w fun e w' => e = .returned (.bool true) ∧ Below w.heap.size w w' := by
  obtain ⟨v, hvv⟩ : ∃ v : V, v = ⟨k, i, s, b⟩ := ⟨_, rfl⟩
  rw [← hvv] at hv
  obtain ⟨rfl, rfl, rfl, rfl⟩ : k = v.k ∧ i = v.i ∧ s = v.s ∧ b = v.b := by rw [hvv]; exact ⟨rfl, rfl, rfl, rfl⟩
  clear hvv
  obtain ⟨W, hW⟩ : ∃ W, w.alloc (.cells #[.int .u8 v.k, .int .i64 v.i, .string v.s, .bool v.b] 43) = W := ⟨_, rfl⟩
  have HX : Hid (ValAt W ⟨w.heap.size, 0, none⟩ v) := Lib.hid (by rw [← hW]; exact ValAt.new w v _)
  have HB : Hid (Below w.heap.size w W) := Lib.hid (by rw [← hW]; exact Cell.bel_alloc _ _)
  have HSZ : Hid (W.heap.size = w.heap.size + 1) := Lib.hid (by rw [← hW]; exact size_alloc _ _)
  have HU := Lib.hid (hU.below HB.out)
  have HW := Lib.hid hW
  have HOK : Hid (∀ u ∈ [v], u.ok) := Lib.hid (by intro u hu; rw [List.mem_singleton] at hu; rw [hu]; exact hv)
  have HRR := Lib.hid (Cell.right_exact v.k v.i v.s v.b hv.2)
  have HKI := Lib.hid (kb_int a ha0)
  have HKF := Lib.hid (kinds_fit a v)
  have HKS : Hid ([Value.int .u8 (1 + a % 3)] = u8s [KB a]) := Lib.hid (by show _ = [Value.int .u8 ((KB a).toNat : Int)]; rw [HKI.out])
  have ham : 0 ≤ a % 3 := by omega
  have ham2 : a % 3 ≤ 2 := by omega
  clear hW hv hU
  cases hr : Cell.rightB v.k v.i v.s v.b
  · rw [hr] at HRR
    have HF : Hid (fitsE [KB a] [v] = 3) := Lib.hid (by rw [HKF.out, if_neg (by show ¬ Cell.rightB v.k v.i v.s v.b = true; rw [hr]; decide)])
    clear hr HKF
    go_enter Tryd.func14, Tryd.ntmps14
    go_wp2_with fail
    rw [HW.out]
    refine (awake_r _ HU.out).mono ?_
    rintro e w1 ⟨rfl, hb1⟩
    have HB1 := Lib.hid hb1
    obtain ⟨x0, x1, x2, x3⟩ := HX.out.below (B := W.heap.size) (by rw [HSZ.out]; show w.heap.size < _; omega) hb1
    clear hb1
    go_wp2_with fail
    refine (HRR.out _).mono ?_
    rintro e w2 ⟨rfl, hb2⟩
    have HB2 := Lib.hid (Cell.bel_trans HB1.out hb2)
    clear hb2 x0 x1 x2 x3
    obtain ⟨x0, x1, x2, x3⟩ := HX.out.below (B := W.heap.size) (by rw [HSZ.out]; show w.heap.size < _; omega) (Cell.bel_trans HB2.out (Cell.bel_alloc w2 (.cells #[.int .u8 (1 + a % 3)] 41)))
    go_wp2_with fail
    refine (fits_any [KB a] [v] (some ⟨w2.heap.size, 0, none⟩) 1 1 (some ⟨w2.heap.size + 1, 0, none⟩) 1 1 _ rfl rfl (by rw [← HKS.out]; exact (Sl.lit w2 #[.int .u8 (1 + a % 3)] 41 1 1 _ rfl rfl (by unfold maxLen; omega)).on (Cell.bel_alloc _ _)) (Sl.lit (w2.alloc _) #[.int .u8 v.k, .int .i64 v.i, .string v.s, .bool v.b] _ 4 1 _ (size_alloc _ _) rfl (by unfold maxLen; omega)) HOK.out (((HU.out.below HB2.out).below (Cell.bel_alloc _ _)).below (Cell.bel_alloc _ _))).mono ?_
    rintro e w3 ⟨rfl, hb3⟩
    rw [HF.out]
    have HB3 := Lib.hid (Cell.bel_trans HB2.out (Cell.bel_trans (Cell.bel_trans (Cell.bel_alloc _ _) (Cell.bel_alloc _ _)) hb3))
    clear hb3 x0 x1 x2 x3
    go_wp2_with fail
    go_ret
    exact ⟨rfl, Cell.bel_trans HB.out HB3.out⟩
  · rw [hr] at HRR
    have hof : off1 v (KB a) = (!(v.k == 0) && !(v.k == 1 + a % 3)) := by unfold off1; rw [HKI.out]
    have hF0 : fitsE [KB a] [v] = if off1 v (KB a) then 8 else 0 := by rw [HKF.out, if_pos (show v.right = true from hr)]
    clear hr HKF
    cases h0 : (v.k == 0)
    · cases h1 : (v.k == 1 + a % 3)
      · have HF : Hid (fitsE [KB a] [v] = 8) := Lib.hid (by rw [hF0, hof, h0, h1]; rfl)
        clear hof hF0
        go_enter Tryd.func14, Tryd.ntmps14
        go_wp2_with fail
        rw [HW.out]
        refine (awake_r _ HU.out).mono ?_
        rintro e w1 ⟨rfl, hb1⟩
        have HB1 := Lib.hid hb1
        obtain ⟨x0, x1, x2, x3⟩ := HX.out.below (B := W.heap.size) (by rw [HSZ.out]; show w.heap.size < _; omega) hb1
        clear hb1
        go_wp2_with fail
        refine (HRR.out _).mono ?_
        rintro e w2 ⟨rfl, hb2⟩
        have HB2 := Lib.hid (Cell.bel_trans HB1.out hb2)
        clear hb2 x0 x1 x2 x3
        obtain ⟨x0, x1, x2, x3⟩ := HX.out.below (B := W.heap.size) (by rw [HSZ.out]; show w.heap.size < _; omega) (Cell.bel_trans HB2.out (Cell.bel_alloc w2 (.cells #[.int .u8 (1 + a % 3)] 41)))
        go_wp2_with fail
        refine (fits_any [KB a] [v] (some ⟨w2.heap.size, 0, none⟩) 1 1 (some ⟨w2.heap.size + 1, 0, none⟩) 1 1 _ rfl rfl (by rw [← HKS.out]; exact (Sl.lit w2 #[.int .u8 (1 + a % 3)] 41 1 1 _ rfl rfl (by unfold maxLen; omega)).on (Cell.bel_alloc _ _)) (Sl.lit (w2.alloc _) #[.int .u8 v.k, .int .i64 v.i, .string v.s, .bool v.b] _ 4 1 _ (size_alloc _ _) rfl (by unfold maxLen; omega)) HOK.out (((HU.out.below HB2.out).below (Cell.bel_alloc _ _)).below (Cell.bel_alloc _ _))).mono ?_
        rintro e w3 ⟨rfl, hb3⟩
        rw [HF.out]
        have HB3 := Lib.hid (Cell.bel_trans HB2.out (Cell.bel_trans (Cell.bel_trans (Cell.bel_alloc _ _) (Cell.bel_alloc _ _)) hb3))
        clear hb3 x0 x1 x2 x3
        obtain ⟨x0, x1, x2, x3⟩ := HX.out.below (B := W.heap.size) (by rw [HSZ.out]; show w.heap.size < _; omega) HB3.out
        go_wp2_with fail
        go_ret
        exact ⟨rfl, Cell.bel_trans HB.out HB3.out⟩
      · have HF : Hid (fitsE [KB a] [v] = 0) := Lib.hid (by rw [hF0, hof, h0, h1]; rfl)
        clear hof hF0
        go_enter Tryd.func14, Tryd.ntmps14
        go_wp2_with fail
        rw [HW.out]
        refine (awake_r _ HU.out).mono ?_
        rintro e w1 ⟨rfl, hb1⟩
        have HB1 := Lib.hid hb1
        obtain ⟨x0, x1, x2, x3⟩ := HX.out.below (B := W.heap.size) (by rw [HSZ.out]; show w.heap.size < _; omega) hb1
        clear hb1
        go_wp2_with fail
        refine (HRR.out _).mono ?_
        rintro e w2 ⟨rfl, hb2⟩
        have HB2 := Lib.hid (Cell.bel_trans HB1.out hb2)
        clear hb2 x0 x1 x2 x3
        obtain ⟨x0, x1, x2, x3⟩ := HX.out.below (B := W.heap.size) (by rw [HSZ.out]; show w.heap.size < _; omega) (Cell.bel_trans HB2.out (Cell.bel_alloc w2 (.cells #[.int .u8 (1 + a % 3)] 41)))
        go_wp2_with fail
        refine (fits_any [KB a] [v] (some ⟨w2.heap.size, 0, none⟩) 1 1 (some ⟨w2.heap.size + 1, 0, none⟩) 1 1 _ rfl rfl (by rw [← HKS.out]; exact (Sl.lit w2 #[.int .u8 (1 + a % 3)] 41 1 1 _ rfl rfl (by unfold maxLen; omega)).on (Cell.bel_alloc _ _)) (Sl.lit (w2.alloc _) #[.int .u8 v.k, .int .i64 v.i, .string v.s, .bool v.b] _ 4 1 _ (size_alloc _ _) rfl (by unfold maxLen; omega)) HOK.out (((HU.out.below HB2.out).below (Cell.bel_alloc _ _)).below (Cell.bel_alloc _ _))).mono ?_
        rintro e w3 ⟨rfl, hb3⟩
        rw [HF.out]
        have HB3 := Lib.hid (Cell.bel_trans HB2.out (Cell.bel_trans (Cell.bel_trans (Cell.bel_alloc _ _) (Cell.bel_alloc _ _)) hb3))
        clear hb3 x0 x1 x2 x3
        obtain ⟨x0, x1, x2, x3⟩ := HX.out.below (B := W.heap.size) (by rw [HSZ.out]; show w.heap.size < _; omega) HB3.out
        go_wp2_with fail
        go_ret
        exact ⟨rfl, Cell.bel_trans HB.out HB3.out⟩
    · have HF : Hid (fitsE [KB a] [v] = 0) := Lib.hid (by rw [hF0, hof, h0]; rfl)
      clear hof hF0
      go_enter Tryd.func14, Tryd.ntmps14
      go_wp2_with fail
      rw [HW.out]
      refine (awake_r _ HU.out).mono ?_
      rintro e w1 ⟨rfl, hb1⟩
      have HB1 := Lib.hid hb1
      obtain ⟨x0, x1, x2, x3⟩ := HX.out.below (B := W.heap.size) (by rw [HSZ.out]; show w.heap.size < _; omega) hb1
      clear hb1
      go_wp2_with fail
      refine (HRR.out _).mono ?_
      rintro e w2 ⟨rfl, hb2⟩
      have HB2 := Lib.hid (Cell.bel_trans HB1.out hb2)
      clear hb2 x0 x1 x2 x3
      obtain ⟨x0, x1, x2, x3⟩ := HX.out.below (B := W.heap.size) (by rw [HSZ.out]; show w.heap.size < _; omega) (Cell.bel_trans HB2.out (Cell.bel_alloc w2 (.cells #[.int .u8 (1 + a % 3)] 41)))
      go_wp2_with fail
      refine (fits_any [KB a] [v] (some ⟨w2.heap.size, 0, none⟩) 1 1 (some ⟨w2.heap.size + 1, 0, none⟩) 1 1 _ rfl rfl (by rw [← HKS.out]; exact (Sl.lit w2 #[.int .u8 (1 + a % 3)] 41 1 1 _ rfl rfl (by unfold maxLen; omega)).on (Cell.bel_alloc _ _)) (Sl.lit (w2.alloc _) #[.int .u8 v.k, .int .i64 v.i, .string v.s, .bool v.b] _ 4 1 _ (size_alloc _ _) rfl (by unfold maxLen; omega)) HOK.out (((HU.out.below HB2.out).below (Cell.bel_alloc _ _)).below (Cell.bel_alloc _ _))).mono ?_
      rintro e w3 ⟨rfl, hb3⟩
      rw [HF.out]
      have HB3 := Lib.hid (Cell.bel_trans HB2.out (Cell.bel_trans (Cell.bel_trans (Cell.bel_alloc _ _) (Cell.bel_alloc _ _)) hb3))
      clear hb3 x0 x1 x2 x3
      obtain ⟨x0, x1, x2, x3⟩ := HX.out.below (B := W.heap.size) (by rw [HSZ.out]; show w.heap.size < _; omega) HB3.out
      go_wp2_with fail
      go_ret
      exact ⟨rfl, Cell.bel_trans HB.out HB3.out⟩
end Go.Proofs.YtcffpinelpllhaaDoor.Mem
