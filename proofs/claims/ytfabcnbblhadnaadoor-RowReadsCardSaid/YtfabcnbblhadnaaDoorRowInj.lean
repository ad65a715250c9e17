/- A row is told by its bytes: the mathematics. lapidarylaw04.kinds. -/
import Derived.Test.YtfabcnbblhadnaaDoorAwakeR
import Derived.Test.YtfabcnbblhadnaaDoorSameRow
namespace Go.Proofs.YtfabcnbblhadnaaDoor.Mem
open Go.RowKit Go.Proofs.YtfabcnbblhadnaaDoor.Nums
open Go.Proofs.YtfabcnbblhadnaaDoor.Cell (U8)
set_option linter.unusedVariables false
set_option linter.unusedSimpArgs false
set_option maxRecDepth 100000
def nullsC : List V → Nat
  | [] => 0
  | v :: l => (if v.k = 0 then 1 else 0) + 2 * nullsC l
theorem nullsC_snoc (l : List V) (v : V) : nullsC (l ++ [v]) = nullsC l + if v.k = 0 then 2 ^ l.length else 0 := by
  induction l with
  | nil => simp [nullsC]
  | cons u l ih =>
    show (if u.k = 0 then 1 else 0) + 2 * nullsC (l ++ [v]) = (if u.k = 0 then 1 else 0) + 2 * nullsC l + _
    rw [ih, List.length_cons, Nat.pow_succ]
    split <;> split <;> omega
theorem nulls_C (l : List V) : nulls l = nullsC l := by
  have h : ∀ r : List V, nullsR r = nullsC r.reverse := by
    intro r
    induction r with
    | nil => rfl
    | cons v r ih => rw [nullsR, List.reverse_cons, nullsC_snoc, ih, List.length_reverse]
  unfold nulls
  rw [h, List.reverse_reverse]
theorem ofNat_inj {a b : Nat} (h : UInt8.ofNat a = UInt8.ofNat b) : a % 256 = b % 256 := by
  have := congrArg UInt8.toNat h
  rwa [UInt8.toNat_ofNat', UInt8.toNat_ofNat'] at this
theorem leU_inj {U W : Nat} (hU : U < 18446744073709551616) (hW : W < 18446744073709551616) (h : leU U = leU W) : U = W := by
  have e : ∀ U, leU U = [UInt8.ofNat (U / 2 ^ 0), UInt8.ofNat (U / 2 ^ 8), UInt8.ofNat (U / 2 ^ 16), UInt8.ofNat (U / 2 ^ 24), UInt8.ofNat (U / 2 ^ 32), UInt8.ofNat (U / 2 ^ 40), UInt8.ofNat (U / 2 ^ 48), UInt8.ofNat (U / 2 ^ 56)] := fun _ => rfl
  rw [e, e] at h
  simp only [List.cons.injEq, and_true] at h
  obtain ⟨h0, h1, h2, h3, h4, h5, h6, h7⟩ := h
  have g0 := ofNat_inj h0
  have g1 := ofNat_inj h1
  have g2 := ofNat_inj h2
  have g3 := ofNat_inj h3
  have g4 := ofNat_inj h4
  have g5 := ofNat_inj h5
  have g6 := ofNat_inj h6
  have g7 := ofNat_inj h7
  clear h0 h1 h2 h3 h4 h5 h6 h7
  omega
theorem wrapped_lt (i : Int) : wrapped i < 18446744073709551616 := by unfold wrapped; omega
theorem wrapped_inj {i j : Int} (hi : Nums.In64 i) (hj : Nums.In64 j) (h : wrapped i = wrapped j) : i = j := by
  unfold Nums.In64 at hi hj
  unfold wrapped at h
  omega
theorem row_inj : ∀ (ks : List UInt8) (a b : List V), a.length = ks.length → b.length = ks.length → a.all V.right = true → b.all V.right = true → (∀ v ∈ a, v.ok) → (∀ v ∈ b, v.ok) → offs a ks = false → offs b ks = false → nullsC a = nullsC b → rBody a = rBody b → a = b
  | [], a, b, ha, hb, _, _, _, _, _, _, _, _ => by
    rw [List.eq_nil_of_length_eq_zero ha, List.eq_nil_of_length_eq_zero hb]
  | k :: ks, a, b, ha, hb, ra, rb, oa, ob, fa, fb, hn, hB => by
    match a, b, ha, hb with
    | u :: a, v :: b, ha, hb =>
      rw [List.all_cons, Bool.and_eq_true] at ra rb
      have fa' : off1 u k = false ∧ offs a ks = false := by
        have : (off1 u k || offs a ks) = false := fa
        simpa using this
      have fb' : off1 v k = false ∧ offs b ks = false := by
        have : (off1 v k || offs b ks) = false := fb
        simpa using this
      have hn' : (if u.k = 0 then 1 else 0) + 2 * nullsC a = (if v.k = 0 then 1 else 0) + 2 * nullsC b := hn
      have hB' : u.rbytes ++ rBody a = v.rbytes ++ rBody b := hB
      have rec_ := fun h1 h2 => row_inj ks a b (by simpa using ha) (by simpa using hb) ra.2 rb.2 (fun x hx => oa x (by simp [hx])) (fun x hx => ob x (by simp [hx])) fa'.2 fb'.2 h1 h2
      have iu := (oa u (by simp)).1
      have iv := (ob v (by simp)).1
      have hk : u.k = v.k := by
        by_cases h0 : u.k = 0
        · by_cases h1 : v.k = 0
          · rw [h0, h1]
          · rw [if_pos h0, if_neg h1] at hn'; omega
        · by_cases h1 : v.k = 0
          · rw [if_neg h0, if_pos h1] at hn'; omega
          · have e1 : u.k = (k.toNat : Int) := by
              have := fa'.1
              unfold off1 at this
              have hu : (u.k == 0) = false := by simpa using h0
              rw [hu] at this
              simpa using this
            have e2 : v.k = (k.toNat : Int) := by
              have := fb'.1
              unfold off1 at this
              have hu : (v.k == 0) = false := by simpa using h1
              rw [hu] at this
              simpa using this
            rw [e1, e2]
      have hnn : nullsC a = nullsC b := by
        rw [hk] at hn'
        omega
      have su := (right_kind ra.1).2
      have sv := (right_kind rb.1).2
      rcases right_cases ra.1 iu with rfl | ⟨b1, rfl⟩ | ⟨i1, hi1, rfl⟩ | ⟨s1, rfl, n1⟩ <;> rcases right_cases rb.1 iv with rfl | ⟨b2, rfl⟩ | ⟨i2, hi2, rfl⟩ | ⟨s2, rfl, n2⟩
      · have hb2 : rBody a = rBody b := hB'
        rw [rec_ hnn hb2]
      · cases hk
      · cases hk
      · cases hk
      · cases hk
      · cases b1 <;> cases b2
        · have hb2 : (0 : UInt8) :: rBody a = 0 :: rBody b := hB'
          injection hb2 with _ hb2
          rw [rec_ hnn hb2]
        · have hb2 : (0 : UInt8) :: rBody a = 1 :: rBody b := hB'
          injection hb2 with hb2 _
          exact absurd hb2 (by decide)
        · have hb2 : (1 : UInt8) :: rBody a = 0 :: rBody b := hB'
          injection hb2 with hb2 _
          exact absurd hb2 (by decide)
        · have hb2 : (1 : UInt8) :: rBody a = 1 :: rBody b := hB'
          injection hb2 with _ hb2
          rw [rec_ hnn hb2]
      · cases hk
      · cases hk
      · cases hk
      · cases hk
      · have hb2 : leU (wrapped i1) ++ rBody a = leU (wrapped i2) ++ rBody b := hB'
        obtain ⟨h1, h2⟩ := List.append_inj hb2 (by rw [leU_len, leU_len])
        have := wrapped_inj hi1 hi2 (leU_inj (wrapped_lt _) (wrapped_lt _) h1)
        rw [this, rec_ hnn h2]
      · cases hk
      · cases hk
      · cases hk
      · cases hk
      · have hb2 : UInt8.ofNat s1.size :: (s1.data.toList ++ rBody a) = UInt8.ofNat s2.size :: (s2.data.toList ++ rBody b) := hB'
        injection hb2 with h1 h2
        have h1' := ofNat_inj h1
        change s1.size ≤ 60 at su
        change s2.size ≤ 60 at sv
        have hsz : s1.size = s2.size := by omega
        obtain ⟨h3, h4⟩ := List.append_inj h2 (by rw [Array.length_toList, Array.length_toList]; exact hsz)
        have : s1 = s2 := by apply ByteArray.ext; apply Array.ext'; exact h3
        rw [this, rec_ hnn h4]
theorem row_told {ks : List UInt8} {a b : List V} (ha : fitsE ks a = 0) (hb : fitsE ks b = 0) (oa : ∀ v ∈ a, v.ok) (ob : ∀ v ∈ b, v.ok) : decide (rowL a = rowL b) = sameRow a b := by
  obtain ⟨hk, la, ra, fa, _⟩ := fits_zero ha
  obtain ⟨_, lb, rb, fb, _⟩ := fits_zero hb
  have h8 := ksOk_len hk
  rw [Bool.eq_iff_iff, decide_eq_true_eq, sameRow_right ra rb oa ob]
  constructor
  · intro h
    have h' : UInt8.ofNat (nulls a) :: rBody a = UInt8.ofNat (nulls b) :: rBody b := h
    injection h' with h1 h2
    have h3 := ofNat_inj h1
    have l1 := nulls_lt a
    have l2 := nulls_lt b
    have p1 : 2 ^ a.length ≤ 2 ^ 8 := Nat.pow_le_pow_right (by omega) (by omega)
    have p2 : 2 ^ b.length ≤ 2 ^ 8 := Nat.pow_le_pow_right (by omega) (by omega)
    exact row_inj ks a b la lb ra rb oa ob fa fb (by rw [← nulls_C, ← nulls_C]; omega) h2
  · rintro rfl; rfl
theorem OwnK.sl {w : World} {B : Nat} {v : Value} {n : Nat} {xs : List Value} (h : OwnK w B v n xs) : ∃ A c, v = .slice A n c ∧ Sl w w.heap.size 1 A n c xs := Sl.of_own h
theorem kindsl_any (x : List UInt8) (A : Option Addr) (n c : Nat) (w : World) (hn : x.length = n) (hx : Sl w w.heap.size 1 A n c (u8s x)) :
    Calls Tryd.prog 33 #[.slice A n c] w fun e w' => ∃ A' c', e = .returned (.slice A' (min n 12) c') ∧ Sl w' w'.heap.size 1 A' (min n 12) c' (u8s (x.take 12)) ∧ Below w.heap.size w w' := by
  have HN := Lib.hid hn
  have HX := Lib.hid hx
  have hcap := hx.cap
  have hle := hx.le
  unfold maxLen at hcap
  clear hn hx
  go_enter Tryd.func33, Tryd.ntmps33
  go_wp2_with fail
  go_loopw [3, 8] (fun p i wr => ∃ k : Nat, k ≤ n ∧ i = .int .i64 k ∧ OwnK wr w.heap.size p (min k 12) (u8s (x.take (min k 12))) ∧ Below w.heap.size w wr) (fun _ i _ => n - (intOf i).toNat)
  case atStart => exact ⟨0, by omega, rfl, World.ownsRow_nil _ _ _ _, Below.refl _ _⟩
  case round =>
    obtain ⟨k, hk, rfl, hown, hbr⟩ := hrel
    have HO := Lib.hid hown
    have HBR := Lib.hid hbr
    clear hown hbr
    by_cases hlt : k < n
    · have hlt' : (k : Int) < n := by omega
      obtain ⟨b, hb⟩ : ∃ b, x[k]? = some b := ⟨_, List.getElem?_eq_getElem (by rw [HN.out]; exact hlt)⟩
      obtain ⟨ad, hA, hAt⟩ := HX.out.at_ (by omega)
      subst hA
      have x0 := u8s_at (hAt.below HBR.out) hb
      have Hb := Lib.hid hb
      clear hb hAt
      by_cases h12 : k < 12
      · have h12' : (k : Int) < 12 := by omega
        have hm1 : min k 12 = k := by omega
        have hm2 : min (k + 1) 12 = k + 1 := by omega
        rw [hm1] at HO
        have HM2 := Lib.hid hm2
        have hsz := HBR.out.size
        clear hm1 hm2
        go_wp2_with (at_builtin; go_loud (refine wpl_app_k rfl (.tmp 15) (.tmp 17) rfl w.heap.size u3 k _ rfl (HO.out.alloc _) _ _ 1 _ rfl (lies_lit _ _ _ 1 1 rfl) (one1 _ _) (by omega) (by rw [size_alloc]; omega) ?_; intro v1 w1 hown1 hgrow1))
        have HK1 := Lib.hid ((Kin.alloc wr _ u3).trans hgrow1)
        have HO1 := Lib.hid hown1
        clear hown1 hgrow1
        go_roundw
        case rel =>
          refine ⟨k + 1, by omega, by go_num, ?_, HBR.out.trans (own_below HK1.out hsz HO.out)⟩
          rw [HM2.out, take_succ_of Hb.out, u8s_app]
          exact HO1.out
        case measure => simp [intOf]; omega
      · have h12' : ¬ (k : Int) < 12 := by omega
        have HM : Hid (min (k + 1) 12 = min k 12) := Lib.hid (by omega)
        go_wp2_with fail
        go_roundw
        case rel => exact ⟨k + 1, by omega, by go_num, by rw [HM.out]; exact HO.out, HBR.out⟩
        case measure => simp [intOf]; omega
    · obtain rfl : k = n := by omega
      have ht : x.take (min k 12) = x.take 12 := by
        by_cases h : k ≤ 12
        · rw [List.take_of_length_le (by rw [HN.out]; omega), List.take_of_length_le (by rw [HN.out]; omega)]
        · rw [show min k 12 = 12 by omega]
      rw [ht] at HO
      obtain ⟨A', c', hv, hs⟩ := HO.out.sl
      subst hv
      have HS := Lib.hid hs
      clear ht hs
      go_wp2_with fail
      go_ret
      exact ⟨A', c', rfl, HS.out, HBR.out⟩
end Go.Proofs.YtfabcnbblhadnaaDoor.Mem
