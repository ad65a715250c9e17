/- RoomLeast: its walk. -/
import Derived.Test.YtghlconkmbmflaaRoomL
namespace Go.Proofs.Ytghlconkmbmflaa.Room
open Go.RowKit Go.Proofs.Ytghlconkmbmflaa.Nums Go.Proofs.Ytghlconkmbmflaa.Mem
set_option linter.unusedVariables false
set_option linter.unusedSimpArgs false
set_option maxRecDepth 100000
def rms (l : List Int) : List Int := l.map fun z => clamp (z % 600)
theorem rms_len (l : List Int) : (rms l).length = l.length := by simp [rms]
theorem rms_succ {l : List Int} {k : Nat} {z : Int} (h : l[k]? = some z) : rms (l.take (k + 1)) = rms (l.take k) ++ [clamp (z % 600)] := by
  obtain ⟨hk, e⟩ := List.getElem?_eq_some_iff.1 h
  unfold rms
  rw [List.take_succ_eq_append_getElem hk, e, List.map_append]
  rfl
theorem rms_ge {l : List Int} (h : ∀ z ∈ l, 0 ≤ z ∧ z ≤ 65535) : ∀ y ∈ rms l, 0 ≤ y := by
  intro y hy
  simp only [rms, List.mem_map] at hy
  obtain ⟨z, hz, rfl⟩ := hy
  have := h z hz
  unfold clamp
  omega
def LeastOk (L : List Int) (need : Int) (f : Int × Bool) : Prop :=
  (∃ (j : Nat) (x : Int), f = ((j : Int), true) ∧ L[j]? = some x ∧ need ≤ x ∧ ∀ i, i < j → ∀ y, L[i]? = some y → y < need) ∨ (f = (0, false) ∧ ∀ y ∈ L, y < need)
set_option maxHeartbeats 1000000 in
theorem least_small (w : World) (zs : List Int) (A : Option Addr) (n c : Nat) (need : Int) (hl : zs.length = n) (hs : Sl w w.heap.size 1 A n c (zs.map (Value.int .u16))) (hz : ∀ z ∈ zs, 0 ≤ z ∧ z ≤ 65535) (hr : Nums.In64 need) (hn : n ≤ 256) :
    Calls Try.prog 4 #[.slice A n c, .int .i64 need] w fun e w' => e = .returned (.bool true) ∧ Below w.heap.size w w' := by
  have hcap := hs.cap
  have hle := hs.le
  unfold maxLen at hcap
  have HS := Lib.hid hs
  obtain ⟨ys, rfl⟩ : ∃ ys, ys = zs := ⟨_, rfl⟩
  have HL : Hid (ys.length = n) := Lib.hid hl
  have HZ : Hid (∀ z ∈ ys, 0 ≤ z ∧ z ≤ 65535) := Lib.hid hz
  have HP : Hid (LeastOk (rms ys) need (findR (rms ys) need)) := Lib.hid (findR_spec (rms_ge HZ.out) need)
  have hn' : (n : Int) ≤ 256 := by omega
  clear hs hl hz hr
  go_enter Try.func4, Try.ntmps4
  go_wp2_with fail
  refine (awake_any _).mono ?_
  rintro e w1 ⟨rfl, hb1⟩
  have HB1 := Lib.hid hb1
  have hz1 := hb1.size
  clear hb1
  go_wp2_with fail
  refine (new_any _).mono ?_
  rintro e w2 ⟨rfl, hw2⟩
  have HO2 : Hid (One w2 w.heap.size w1.heap.size (rms (ys.take 0))) := Lib.hid (by subst hw2; exact one_new w1 hz1)
  have HB2 : Hid (Below w.heap.size w w2) := Lib.hid (by subst hw2; exact bel_trans HB1.out (bel_alloc _ _))
  generalize w1.heap.size = P at *
  clear hw2 HB1
  go_wp2_with fail
  go_loopw [21] (fun i wr => ∃ k : Nat, k ≤ n ∧ i = .int .i64 k ∧ One wr w.heap.size P (rms (ys.take k)) ∧ Below w.heap.size w wr) (fun i _ => n - (intOf i).toNat)
  case atStart => exact ⟨0, by omega, rfl, HO2.out, HB2.out⟩
  case round =>
    obtain ⟨k, hk, rfl, ho, hb⟩ := hrel
    have HO := Lib.hid ho
    have HB := Lib.hid hb
    clear ho hb HO2 HB2
    by_cases hlt : k < n
    · have hlt' : (k : Int) < n := by omega
      obtain ⟨z, hzk⟩ : ∃ z, ys[k]? = some z := ⟨_, List.getElem?_eq_getElem (by rw [HL.out]; exact hlt)⟩
      obtain ⟨ad, rfl, hAt⟩ := HS.out.at_ (by omega)
      have x0 := (hAt.below HB.out).2 k (.int .u16 z) (by rw [List.getElem?_map, hzk]; rfl)
      obtain ⟨hz0, hz6⟩ := HZ.out z (List.mem_of_getElem? hzk)
      have HE : Hid (setR (rms (ys.take k)) k (z % 600) = (0, rms (ys.take (k + 1)))) := Lib.hid (by
        rw [setR_app (by rw [rms_len, List.length_take, HL.out]; omega) (by omega) rfl, rms_succ hzk])
      have HN : Hid ((rms (ys.take k)).length ≤ 256) := Lib.hid (by rw [rms_len, List.length_take, HL.out]; omega)
      clear hzk hAt
      go_wp2_with fail
      refine (set_one HO.out HN.out _ _).mono ?_
      rw [HE.out]
      rintro e w3 ⟨rfl, ho3, hb3⟩
      have HO3 := Lib.hid ho3
      have HB3 := Lib.hid (HB.out.trans hb3)
      clear ho3 hb3
      go_wp2_with fail
      go_roundw
      case rel => exact ⟨k + 1, by omega, by go_num, HO3.out, HB3.out⟩
      case measure => simp [intOf]; omega
    · obtain rfl : k = n := by omega
      rw [List.take_of_length_le (by rw [HL.out]; omega)] at HO
      obtain ⟨M, hM⟩ : ∃ M, rms ys = M := ⟨_, rfl⟩
      have HM : Hid (M.length = k) := Lib.hid (by rw [← hM, rms_len, HL.out])
      rw [hM] at HO HP
      clear hM
      have CF := Lib.hid (find_one HO.out need)
      generalize findR M need = f at CF HP
      rcases HP.out with ⟨j, x, hf, hx, hnx, hless⟩ | ⟨hf, hall⟩
      · subst hf
        have hjk : j < k := by have := (List.getElem?_eq_some_iff.1 hx).1; rw [HM.out] at this; exact this
        have HX := Lib.hid (getR_at hx)
        have HLS := Lib.hid hless
        clear hx hless HP
        go_wp2_with fail
        refine CF.out.mono ?_
        rintro e w3 ⟨rfl, rfl⟩
        go_wp2_with fail
        go_loop [45] (fun i => ∃ q : Nat, q ≤ j ∧ i = .int .i64 q) (fun i => j - (intOf i).toNat)
        case atStart => exact ⟨0, by omega, rfl⟩
        case round =>
          obtain ⟨q, hq, rfl⟩ := hrel
          by_cases hqj : q < j
          · have hqj' : (q : Int) < j := by omega
            obtain ⟨y, hy⟩ : ∃ y, M[q]? = some y := ⟨_, List.getElem?_eq_getElem (by rw [HM.out]; omega)⟩
            have hyn : y < need := HLS.out q hqj y hy
            have HY := Lib.hid (getR_at hy)
            clear hy
            go_wp2_with fail
            refine (get_one HO.out _).mono ?_
            rw [HY.out]
            rintro e w4 ⟨rfl, rfl⟩
            go_wp2_with fail
            go_round
            case rel => exact ⟨q + 1, by omega, by go_num⟩
            case measure => simp [intOf]; omega
          · obtain rfl : q = j := by omega
            go_wp2_with fail
            refine (pages_one HO.out).mono ?_
            rw [HM.out]
            rintro e w4 ⟨rfl, rfl⟩
            go_wp2_with fail
            refine (get_one HO.out _).mono ?_
            rw [HX.out]
            rintro e w4 ⟨rfl, rfl⟩
            go_wp2_with fail
            go_ret
            exact ⟨rfl, HB.out⟩
      · subst hf
        have HLS := Lib.hid hall
        clear hall HP
        go_wp2_with fail
        refine CF.out.mono ?_
        rintro e w3 ⟨rfl, rfl⟩
        go_wp2_with fail
        go_loop [45] (fun i => ∃ q : Nat, q ≤ k ∧ i = .int .i64 q) (fun i => k - (intOf i).toNat)
        case atStart => exact ⟨0, by omega, rfl⟩
        case round =>
          obtain ⟨q, hq, rfl⟩ := hrel
          by_cases hqj : q < k
          · have hqj' : (q : Int) < k := by omega
            obtain ⟨y, hy⟩ : ∃ y, M[q]? = some y := ⟨_, List.getElem?_eq_getElem (by rw [HM.out]; omega)⟩
            have hyn : y < need := HLS.out y (List.mem_of_getElem? hy)
            have HY := Lib.hid (getR_at hy)
            clear hy
            go_wp2_with fail
            refine (get_one HO.out _).mono ?_
            rw [HY.out]
            rintro e w4 ⟨rfl, rfl⟩
            go_wp2_with fail
            go_round
            case rel => exact ⟨q + 1, by omega, by go_num⟩
            case measure => simp [intOf]; omega
          · obtain rfl : q = k := by omega
            go_wp2_with fail
            refine (pages_one HO.out).mono ?_
            rw [HM.out]
            rintro e w4 ⟨rfl, rfl⟩
            go_wp2_with fail
            go_ret
            exact ⟨rfl, HB.out⟩
set_option maxHeartbeats 1000000 in
theorem least_big (w : World) (zs : List Int) (A : Option Addr) (n c : Nat) (need : Int) (hl : zs.length = n) (hs : Sl w w.heap.size 1 A n c (zs.map (Value.int .u16))) (hz : ∀ z ∈ zs, 0 ≤ z ∧ z ≤ 65535) (hr : Nums.In64 need) (hn : 256 < n) :
    Calls Try.prog 4 #[.slice A n c, .int .i64 need] w fun e w' => e = .returned (.bool true) ∧ Below w.heap.size w w' := by
  have hcap := hs.cap
  have hle := hs.le
  unfold maxLen at hcap
  have HS := Lib.hid (hs.take (k := 256) (by omega))
  rw [Nat.mul_one, ← List.map_take] at HS
  have hc256 : (256 : Int) ≤ c := by omega
  have hmx : max (256 : Int) 0 = 256 := by decide
  have hn' : (256 : Int) < n := by omega
  obtain ⟨ys, hys⟩ : ∃ ys, zs.take 256 = ys := ⟨_, rfl⟩
  rw [hys] at HS
  have HL : Hid (ys.length = 256) := Lib.hid (by rw [← hys, List.length_take]; omega)
  have HZ : Hid (∀ z ∈ ys, 0 ≤ z ∧ z ≤ 65535) := Lib.hid (fun z h => hz z (List.mem_of_mem_take (by rw [hys]; exact h)))
  have HP : Hid (LeastOk (rms ys) need (findR (rms ys) need)) := Lib.hid (findR_spec (rms_ge HZ.out) need)
  clear hs hl hz hys hr
  go_enter Try.func4, Try.ntmps4
  go_wp2_with fail
  refine (awake_any _).mono ?_
  rintro e w1 ⟨rfl, hb1⟩
  have HB1 := Lib.hid hb1
  have hz1 := hb1.size
  clear hb1
  go_wp2_with fail
  refine (new_any _).mono ?_
  rintro e w2 ⟨rfl, hw2⟩
  have HO2 : Hid (One w2 w.heap.size w1.heap.size (rms (ys.take 0))) := Lib.hid (by subst hw2; exact one_new w1 hz1)
  have HB2 : Hid (Below w.heap.size w w2) := Lib.hid (by subst hw2; exact bel_trans HB1.out (bel_alloc _ _))
  generalize w1.heap.size = P at *
  clear hw2 HB1
  go_wp2_with fail
  go_loopw [21] (fun i wr => ∃ k : Nat, k ≤ 256 ∧ i = .int .i64 k ∧ One wr w.heap.size P (rms (ys.take k)) ∧ Below w.heap.size w wr) (fun i _ => 256 - (intOf i).toNat)
  case atStart => exact ⟨0, by omega, rfl, HO2.out, HB2.out⟩
  case round =>
    obtain ⟨k, hk, rfl, ho, hb⟩ := hrel
    have HO := Lib.hid ho
    have HB := Lib.hid hb
    clear ho hb HO2 HB2
    by_cases hlt : k < 256
    · have hlt' : (k : Int) < 256 := by omega
      obtain ⟨z, hzk⟩ : ∃ z, ys[k]? = some z := ⟨_, List.getElem?_eq_getElem (by rw [HL.out]; exact hlt)⟩
      obtain ⟨ad, rfl, hAt⟩ := HS.out.at_ (by omega)
      have x0 := (hAt.below HB.out).2 k (.int .u16 z) (by rw [List.getElem?_map, hzk]; rfl)
      obtain ⟨hz0, hz6⟩ := HZ.out z (List.mem_of_getElem? hzk)
      have HE : Hid (setR (rms (ys.take k)) k (z % 600) = (0, rms (ys.take (k + 1)))) := Lib.hid (by
        rw [setR_app (by rw [rms_len, List.length_take, HL.out]; omega) (by omega) rfl, rms_succ hzk])
      have HN : Hid ((rms (ys.take k)).length ≤ 256) := Lib.hid (by rw [rms_len, List.length_take, HL.out]; omega)
      clear hzk hAt
      go_wp2_with fail
      refine (set_one HO.out HN.out _ _).mono ?_
      rw [HE.out]
      rintro e w3 ⟨rfl, ho3, hb3⟩
      have HO3 := Lib.hid ho3
      have HB3 := Lib.hid (HB.out.trans hb3)
      clear ho3 hb3
      go_wp2_with fail
      go_roundw
      case rel => exact ⟨k + 1, by omega, by go_num, HO3.out, HB3.out⟩
      case measure => simp [intOf]; omega
    · obtain rfl : k = 256 := by omega
      rw [List.take_of_length_le (by rw [HL.out]; omega)] at HO
      obtain ⟨M, hM⟩ : ∃ M, rms ys = M := ⟨_, rfl⟩
      have HM : Hid (M.length = 256) := Lib.hid (by rw [← hM, rms_len, HL.out])
      rw [hM] at HO HP
      clear hM
      have CF := Lib.hid (find_one HO.out need)
      generalize findR M need = f at CF HP
      rcases HP.out with ⟨j, x, hf, hx, hnx, hless⟩ | ⟨hf, hall⟩
      · subst hf
        have hjk : j < 256 := by have := (List.getElem?_eq_some_iff.1 hx).1; rw [HM.out] at this; exact this
        have HX := Lib.hid (getR_at hx)
        have HLS := Lib.hid hless
        clear hx hless HP
        go_wp2_with fail
        refine CF.out.mono ?_
        rintro e w3 ⟨rfl, rfl⟩
        go_wp2_with fail
        go_loop [45] (fun i => ∃ q : Nat, q ≤ j ∧ i = .int .i64 q) (fun i => j - (intOf i).toNat)
        case atStart => exact ⟨0, by omega, rfl⟩
        case round =>
          obtain ⟨q, hq, rfl⟩ := hrel
          by_cases hqj : q < j
          · have hqj' : (q : Int) < j := by omega
            obtain ⟨y, hy⟩ : ∃ y, M[q]? = some y := ⟨_, List.getElem?_eq_getElem (by rw [HM.out]; omega)⟩
            have hyn : y < need := HLS.out q hqj y hy
            have HY := Lib.hid (getR_at hy)
            clear hy
            go_wp2_with fail
            refine (get_one HO.out _).mono ?_
            rw [HY.out]
            rintro e w4 ⟨rfl, rfl⟩
            go_wp2_with fail
            go_round
            case rel => exact ⟨q + 1, by omega, by go_num⟩
            case measure => simp [intOf]; omega
          · obtain rfl : q = j := by omega
            go_wp2_with fail
            refine (pages_one HO.out).mono ?_
            rw [HM.out]
            rintro e w4 ⟨rfl, rfl⟩
            go_wp2_with fail
            refine (get_one HO.out _).mono ?_
            rw [HX.out]
            rintro e w4 ⟨rfl, rfl⟩
            go_wp2_with fail
            go_ret
            exact ⟨rfl, HB.out⟩
      · subst hf
        have HLS := Lib.hid hall
        clear hall HP
        go_wp2_with fail
        refine CF.out.mono ?_
        rintro e w3 ⟨rfl, rfl⟩
        go_wp2_with fail
        go_loop [45] (fun i => ∃ q : Nat, q ≤ 256 ∧ i = .int .i64 q) (fun i => 256 - (intOf i).toNat)
        case atStart => exact ⟨0, by omega, rfl⟩
        case round =>
          obtain ⟨q, hq, rfl⟩ := hrel
          by_cases hqj : q < 256
          · have hqj' : (q : Int) < 256 := by omega
            obtain ⟨y, hy⟩ : ∃ y, M[q]? = some y := ⟨_, List.getElem?_eq_getElem (by rw [HM.out]; omega)⟩
            have hyn : y < need := HLS.out y (List.mem_of_getElem? hy)
            have HY := Lib.hid (getR_at hy)
            clear hy
            go_wp2_with fail
            refine (get_one HO.out _).mono ?_
            rw [HY.out]
            rintro e w4 ⟨rfl, rfl⟩
            go_wp2_with fail
            go_round
            case rel => exact ⟨q + 1, by omega, by go_num⟩
            case measure => simp [intOf]; omega
          · obtain rfl : q = 256 := by omega
            go_wp2_with fail
            refine (pages_one HO.out).mono ?_
            rw [HM.out]
            rintro e w4 ⟨rfl, rfl⟩
            go_wp2_with fail
            go_ret
            exact ⟨rfl, HB.out⟩
theorem least_walk (w : World) (zs : List Int) (A : Option Addr) (n c : Nat) (need : Int) (hl : zs.length = n) (hs : Sl w w.heap.size 1 A n c (zs.map (Value.int .u16))) (hz : ∀ z ∈ zs, 0 ≤ z ∧ z ≤ 65535) (hr : Nums.In64 need) :
    Calls Try.prog 4 #[.slice A n c, .int .i64 need] w fun e w' => e = .returned (.bool true) ∧ Below w.heap.size w w' := by
  by_cases hn : n ≤ 256
  · exact least_small w zs A n c need hl hs hz hr hn
  · exact least_big w zs A n c need hl hs hz hr (by omega)
end Go.Proofs.Ytghlconkmbmflaa.Room
