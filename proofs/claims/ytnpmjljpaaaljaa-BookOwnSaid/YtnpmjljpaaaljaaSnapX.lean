/- lapidaryref10: Sees, Visible, Free, Dead, Horizon; snap.Free. -/
import Derived.Test.YtnpmjljpaaaljaaSnapU
namespace Go.Proofs.Ytnpmjljpaaaljaa.Clg
open Go.ChangeMaps Go.MapKept Go.RowKit Go.Proofs.Ytnpmjljpaaaljaa.Nums Go.Proofs.Ytnpmjljpaaaljaa.Mem
set_option linter.unusedVariables false
set_option linter.unusedSimpArgs false
set_option maxRecDepth 100000
section
variable {w : World} {F : Nat → Prop} {Q P f : Nat} {S : List Nat}
theorem belN {w w' : World} (h : ∃ m, w' = w.drewN m) : Below w.heap.size w w' := by
  obtain ⟨m, rfl⟩ := h
  exact ⟨rfl, rfl, rfl, Nat.le_refl _, fun _ _ => rfl⟩
theorem found_no' {x : Nat} {R : List Nat} (h : ∀ (k y : Nat), R[k]? = some y → y ≠ x) : foundB x R = false := by
  unfold foundB
  cases hc : R.contains x with
  | false => rfl
  | true =>
    have hm : x ∈ R := by simpa [List.contains_eq_mem] using hc
    obtain ⟨k, hk⟩ := List.mem_iff_getElem?.1 hm
    exact absurd rfl (h k x hk)
theorem found_yes' {x k : Nat} {R : List Nat} (h : R[k]? = some x) : foundB x R = true := by
  unfold foundB
  simp only [List.contains_eq_mem, decide_eq_true_eq]
  exact List.mem_of_getElem? h
set_option maxHeartbeats 2000000 in
theorem rsees_any (h : RF w F Q f S) {own xmax : Nat} {run : List Nat} {A : Option Addr} {c : Nat} (hs : SlU w A c run) {x : Nat} (hx : x < 18446744073709551616) :
    Calls Try.prog 20 #[.pointer (some ⟨Q, 0, none⟩), .agg #[.int .u64 (own : Int), .int .u64 (xmax : Int), .slice A run.length c], .int .u64 (x : Int)] w (BoolP w (seesB f S own xmax run x)) := by
  obtain ⟨n, hn⟩ : ∃ n, run.length = n := ⟨_, rfl⟩
  obtain ⟨W2, hW2⟩ : ∃ W2, W2 = w.alloc (.cells #[.int .u64 (own : Int), .int .u64 (xmax : Int), .slice A n c] 52) := ⟨_, rfl⟩
  have HB2 : Hid (Below w.heap.size w W2) := Lib.hid (by rw [hW2]; exact bel_alloc _ _)
  have HS2 : Hid (SlU W2 A c run) := Lib.hid (by rw [hW2]; exact Sl.on hs (bel_alloc _ _))
  have HK2 : Hid (Blk W2 w.heap.size 52 #[.int .u64 (own : Int), .int .u64 (xmax : Int), .slice A n c]) := Lib.hid (by rw [hW2]; exact Blk.new w _ _)
  have CST := Lib.hid (fun W (hw : Below W2.heap.size W2 W) => rstate_any (h.below ((show Below w.heap.size w W2 from HB2.out).trans (hw.mono HB2.out.size))) hx)
  have HW := Lib.hid hW2
  have hle := hs.le
  have hcap := hs.cap
  unfold maxLen at hcap
  have HN := Lib.hid hn
  rw [hn] at hle
  rw [hn]
  clear hs hW2 hn h
  by_cases hxo : x = own
  · have hxo' : ((x : Int) == (own : Int)) = true := by rw [beq_iff_eq]; omega
    have hxo2 : (x == own) = true := beq_iff_eq.2 hxo
    have HR : Hid (seesB f S own xmax run x = true) := Lib.hid (by unfold seesB; rw [if_pos hxo])
    clear hxo
    go_enter Try.func20, Try.ntmps20
    go_wp2_with fail
    rw [← HW.out]
    have hxq := Lib.hid hxo2
    go_ret
    exact ⟨by rw [HR.out]; rfl, HB2.out⟩
  · have hxo' : ((x : Int) == (own : Int)) = false := by rw [beq_eq_false_iff_ne]; omega
    have hxo2 : (x == own) = false := beq_eq_false_iff_ne.2 hxo
    have HXO := Lib.hid hxo
    clear hxo
    go_enter Try.func20, Try.ntmps20
    go_wp2_with fail
    rw [← HW.out]
    go_loopw [16] (fun i wr => ∃ k : Nat, k ≤ n ∧ i = .int .i64 k ∧ (∀ (j y : Nat), j < k → run[j]? = some y → y ≠ x) ∧ Below W2.heap.size W2 wr) (fun i _ => n - (intOf i).toNat)
    case atStart => exact ⟨0, by omega, rfl, fun j y hj => absurd hj (by omega), Below.refl _ _⟩
    case round =>
      obtain ⟨k, hk, rfl, hno, hb⟩ := hrel
      have HNO := Lib.hid hno
      have HB := Lib.hid hb
      clear hno hb
      by_cases hlt : k < n
      · have hlt' : (k : Int) < n := by omega
        obtain ⟨y, hy⟩ : ∃ y, run[k]? = some y := ⟨_, List.getElem?_eq_getElem (by have := HN.out; omega)⟩
        obtain ⟨ad, rfl, x0⟩ := SlU.at_ (show SlU wr A c run from Sl.on HS2.out HB.out) hy
        have HY := Lib.hid hy
        clear hy
        by_cases hyx : y = x
        · have hyx' : ((y : Int) == (x : Int)) = true := by rw [beq_iff_eq]; omega
          have hyx2 : (y == x) = true := beq_iff_eq.2 hyx
          have HR : Hid (seesB f S own xmax run x = false) := Lib.hid (by
            unfold seesB
            rw [if_neg HXO.out, if_pos (found_yes' (by rw [← hyx]; exact HY.out))]
            split <;> rfl)
          have HBF := Lib.hid (HB2.out.trans (HB.out.mono HB2.out.size))
          clear hyx
          go_wp2_with fail
          go_ret
          exact ⟨by rw [HR.out]; rfl, HBF.out⟩
        · have hyx' : ((y : Int) == (x : Int)) = false := by rw [beq_eq_false_iff_ne]; omega
          have hyx2 : (y == x) = false := beq_eq_false_iff_ne.2 hyx
          have HYX := Lib.hid hyx
          clear hyx
          go_wp2_with fail
          go_roundw
          case rel => exact ⟨k + 1, by omega, by go_num, fun j z hj hz => by
            rcases Nat.lt_or_ge j k with h | h
            · exact HNO.out j z h hz
            · obtain rfl : j = k := by omega
              rw [HY.out] at hz
              injection hz with hz
              rw [← hz]
              exact HYX.out, HB.out⟩
          case measure => simp [intOf]; omega
      · obtain rfl : n = k := by omega
        obtain ⟨s0, s1, s2⟩ := (cells3 (HK2.out.below HB.out HK2.out.lt)).1
        have HF : Hid (foundB x run = false) := Lib.hid (found_no' fun j y hj => HNO.out j y (by have := (List.getElem?_eq_some_iff.1 hj).1; have := HN.out; omega) hj)
        have HBF := Lib.hid (HB2.out.trans (HB.out.mono HB2.out.size))
        by_cases hm : x < xmax
        · have hm2 : decide (x < xmax) = true := by rw [decide_eq_true_eq]; exact hm
          have HR : Hid (seesB f S own xmax run x = (stOf f S x == 2)) := Lib.hid (by
            unfold seesB
            rw [if_neg HXO.out, if_neg (by omega), if_neg (by rw [HF.out]; simp)])
          have CC := Lib.hid (CST.out wr HB.out)
          have he : ((stOf f S x : Int) == 2) = (stOf f S x == 2) := by
            by_cases e : stOf f S x = 2
            · rw [e]; rfl
            · rw [beq_eq_false_iff_ne.2 e, beq_eq_false_iff_ne]; omega
          obtain ⟨st, hst⟩ : ∃ st, stOf f S x = st := ⟨_, rfl⟩
          rw [hst] at he CC HR
          have HE := Lib.hid he
          clear he hst
          have hm' : (x : Int) < xmax := by omega
          clear hm
          go_wp2_with fail
          refine CC.out.mono ?_
          rintro e w4 ⟨rfl, hm4⟩
          have HB4 := Lib.hid (HBF.out.trans ((belN hm4).mono HBF.out.size))
          clear hm4
          go_wp2_with fail
          go_ret
          exact ⟨by rw [HR.out, ← HE.out]; rfl, HB4.out⟩
        · have hm2 : decide (x < xmax) = false := by rw [decide_eq_false_iff_not]; exact hm
          have hm' : ¬ (x : Int) < xmax := by omega
          have HR : Hid (seesB f S own xmax run x = false) := Lib.hid (by
            unfold seesB
            rw [if_neg HXO.out, if_pos (by omega)])
          clear hm
          go_wp2_with fail
          go_ret
          exact ⟨by rw [HR.out]; rfl, HBF.out⟩
end
end Go.Proofs.Ytnpmjljpaaaljaa.Clg
