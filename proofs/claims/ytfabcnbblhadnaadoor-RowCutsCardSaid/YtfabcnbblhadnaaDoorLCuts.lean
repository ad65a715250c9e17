/- RowCuts: its walk. -/
import Derived.Test.YtfabcnbblhadnaaDoorRowM
import Derived.Deep.RegionHeld3
namespace Go.Proofs.YtfabcnbblhadnaaDoor.Mem
open Go.RowKit Go.Proofs.YtfabcnbblhadnaaDoor.Nums
open Go.Proofs.YtfabcnbblhadnaaDoor.Cell (U8)
set_option linter.unusedVariables false
set_option linter.unusedSimpArgs false
set_option maxRecDepth 100000
theorem rread_no (ks x : List UInt8) (hr : rRow ks x = (3, [])) (A : Option Addr) (n c : Nat) (A' : Option Addr) (n' c' : Nat) (w : World) (hn : ks.length = n) (hm : x.length = n') (hk : Sl w w.heap.size 1 A n c (u8s ks)) (hx : Sl w w.heap.size 1 A' n' c' (u8s x)) (hU : U8 w) :
    Calls Tryd.prog 36 #[.slice A n c, .slice A' n' c'] w fun e w' => e = .returned (.tuple #[.slice none 0 0, .int .i64 3]) ∧ Below w.heap.size w w' := by
  refine (rread_any ks x A n c A' n' c' w hn hm hk hx hU).mono ?_
  rintro e w' ⟨hb, h⟩
  rw [hr] at h
  rcases h with ⟨h, _⟩ | ⟨_, _, h⟩
  · exact absurd h (by decide)
  · exact ⟨h, hb⟩
theorem cuts_n (x : List UInt8) (A0 : Option Addr) (n0 c0 : Nat) (la : List V) (A : Option Addr) (n c : Nat) (a : Int) (y : List UInt8) (A3 : Option Addr) (n3 c3 : Nat) (w : World) (hx : x.length = n0) (hxs : Sl w w.heap.size 1 A0 n0 c0 (u8s x)) (hla : la.length = n) (N : Nat) (hm1 : min (N : Int) 12 = (n : Int)) (hN : n ≤ N) (ha : Sl w w.heap.size 4 A n c (vals la)) (hcn : N ≤ c) (hoka : ∀ v ∈ la, v.ok) (ha0 : 0 ≤ a) (ha1 : a ≤ 255) (hy : y.length = n3) (hys : Sl w w.heap.size 1 A3 n3 c3 (u8s y)) (F1 : Int) (hF1 : fitsE (x.take 12) la = F1) (hf1 : F1 ≠ 0) (hU : U8 w) :
    Calls Tryd.prog 12 #[.slice A0 n0 c0, .slice A N c, .int .u8 a, .slice A3 n3 c3] w fun e w' => e = .returned (.bool true) ∧ Below w.heap.size w w' := by
  have hc := ha.cap
  unfold maxLen at hc
  have hKc : (n : Int) ≤ c := by omega
  have hn0 : (0 : Int) ≤ n := by omega
  have HSA := Lib.hid ha
  have HU := Lib.hid hU
  have HLA := Lib.hid hla
  have HOA := Lib.hid hoka
  have HXS := Lib.hid hxs
  have HXN := Lib.hid hx
  have HYS := Lib.hid hys
  have HK12 : Hid ((x.take 12).length = min n0 12) := Lib.hid (by rw [List.length_take, hx]; omega)
  clear ha hU hla hoka hxs hx hys hy
  have HF1 := Lib.hid hF1
  have Hf1 := Lib.hid hf1
  have hg1 : (F1 != 0) = true := by rw [bne_iff_ne]; exact hf1
  have hg1' : (F1 == 0) = false := by rw [beq_eq_false_iff_ne]; exact hf1
  clear hF1 hf1
  have hTT : True := trivial
  go_enter Tryd.func12, Tryd.ntmps12
  go_wp2_with fail
  refine (awake_r _ HU.out).mono ?_
  rintro e w1 ⟨rfl, hb1⟩
  have HB1 := Lib.hid hb1
  clear hb1
  go_wp2_with fail
  go_region_held3 (fun _ => True) (trivial)
    (first
      | (go_at_call 33; refine (kindsl_any x A0 n0 c0 _ HXN.out (HXS.out.on (by first | exact HB1.out | exact HB1.out.drew))).mono ?_; rintro e w3 ⟨AK, cK, rfl, hs3, hb3⟩; have HB3 := Lib.hid (Cell.bel_trans (by first | exact HB1.out | exact HB1.out.drew) hb3))
      | (go_at_call 32; refine (rbytes_no (x.take 12) la F1 HF1.out Hf1.out AK _ cK A n c _ HK12.out HLA.out hs3 (HSA.out.on HB3.out) HOA.out (HU.out.below HB3.out)).mono ?_; rintro e w4 ⟨rfl, hb4⟩))
  all_goals
    have HB4 := Lib.hid (Cell.bel_trans HB3.out hb4)
    clear hs3 hb3 hb4
    go_wp2_with fail
    go_ret
    exact ⟨rfl, HB4.out⟩
set_option maxHeartbeats 2000000 in
theorem cuts_y (x : List UInt8) (A0 : Option Addr) (n0 c0 : Nat) (la : List V) (A : Option Addr) (n c : Nat) (a : Int) (y : List UInt8) (A3 : Option Addr) (n3 c3 : Nat) (w : World) (hx : x.length = n0) (hxs : Sl w w.heap.size 1 A0 n0 c0 (u8s x)) (hla : la.length = n) (N : Nat) (hm1 : min (N : Int) 12 = (n : Int)) (hN : n ≤ N) (ha : Sl w w.heap.size 4 A n c (vals la)) (hcn : N ≤ c) (hoka : ∀ v ∈ la, v.ok) (ha0 : 0 ≤ a) (ha1 : a ≤ 255) (hy : y.length = n3) (hys : Sl w w.heap.size 1 A3 n3 c3 (u8s y)) (hF1 : fitsE (x.take 12) la = 0) (hU : U8 w) :
    Calls Tryd.prog 12 #[.slice A0 n0 c0, .slice A N c, .int .u8 a, .slice A3 n3 c3] w fun e w' => e = .returned (.bool true) ∧ Below w.heap.size w w' := by
  have hc := ha.cap
  unfold maxLen at hc
  have hKc : (n : Int) ≤ c := by omega
  have hn0 : (0 : Int) ≤ n := by omega
  have HSA := Lib.hid ha
  have HU := Lib.hid hU
  have HLA := Lib.hid hla
  have HOA := Lib.hid hoka
  have HXS := Lib.hid hxs
  have HXN := Lib.hid hx
  have HYS := Lib.hid hys
  have HK12 : Hid ((x.take 12).length = min n0 12) := Lib.hid (by rw [List.length_take, hx]; omega)
  have hoka' := hoka
  clear ha hU hla hoka hxs hx hys hy
  have HF1 := Lib.hid hF1
  have hF := fits_zero hF1
  have hsz : rSize la ≤ 200 := hF.2.2.2.2
  have hs1 : 1 ≤ rSize la := by unfold rSize; omega
  obtain ⟨Z, hZ⟩ : ∃ Z, rSize la = Z := ⟨_, rfl⟩
  have HLEN : Hid ((rowL la).length = Z) := Lib.hid (by rw [rowL_len, hZ])
  rw [hZ] at hsz hs1
  obtain ⟨J, hJ⟩ : ∃ J : Nat, a % (Z : Int) = (J : Int) := ⟨(a % (Z : Int)).toNat, by have := Int.emod_nonneg a (show (Z : Int) ≠ 0 by omega); omega⟩
  have hJZ : J < Z := by have := Int.emod_lt_of_pos a (show (0 : Int) < Z by omega); omega
  have hJt : a.tmod (Z : Int) = (J : Int) := by rw [Int.tmod_eq_emod_of_nonneg ha0, hJ]
  have HZ := Lib.hid hZ
  have HR1 : Hid (rRow (x.take 12) ((rowL la).take J) = (3, [])) := Lib.hid (row_cut hF1 hoka' (by rw [HLEN.out]; exact hJZ))
  have HR2 : Hid (rRow (x.take 12) (rowL la ++ (y.take 20 ++ [0])) = (3, [])) := Lib.hid (row_more hF1 hoka' (by simp))
  have HTJ : Hid (((rowL la).take J).length = J) := Lib.hid (by rw [List.length_take, HLEN.out]; omega)
  clear hF1 hF hZ hoka'
  have hTT : True := trivial
  go_enter Tryd.func12, Tryd.ntmps12
  go_wp2_with fail
  refine (awake_r _ HU.out).mono ?_
  rintro e w1 ⟨rfl, hb1⟩
  have HB1 := Lib.hid hb1
  clear hb1
  go_wp2_with fail
  go_region_held3 (fun _ => True) (trivial)
    (first
      | (go_at_call 33; refine (kindsl_any x A0 n0 c0 _ HXN.out (HXS.out.on (by first | exact HB1.out | exact HB1.out.drew))).mono ?_; rintro e w3 ⟨AK, cK, rfl, hs3, hb3⟩; have HB3 := Lib.hid (Cell.bel_trans (by first | exact HB1.out | exact HB1.out.drew) hb3))
      | (go_at_call 32; refine (rbytes_ok (x.take 12) la HF1.out AK _ cK A n c _ HK12.out HLA.out hs3 (HSA.out.on HB3.out) HOA.out (HU.out.below HB3.out)).mono ?_; rintro e w4 ⟨A4, c4, rfl, hown4, hs4, hb4⟩))
  all_goals
    have HB4 := Lib.hid (Cell.bel_trans HB3.out hb4)
    rw [HZ.out] at hs4
    have hZc : (Z : Int) ≤ c4 := by have := hs4.le; omega
    have hZc' : c4 ≤ 9223372036854775807 := by have := hs4.cap; unfold maxLen at this; omega
    have hJc : (J : Int) ≤ c4 := by omega
    have hJ0 : (0 : Int) ≤ J := by omega
    have HP4 := Lib.hid hs4
    have hz1 : (1 : Int) ≤ Z := by omega
    have hz0 : ((Z : Int) == 0) = false := by rw [beq_eq_false_iff_ne]; omega
    have hz0' : ¬ (Z : Int) = 0 := by omega
    have hzn : ¬ Z = 0 := by omega
    have hzp : 0 < Z := by omega
    have hJw : IntKind.i64.wrap (J : Int) = J := by rw [IntKind.wrap_i64]; omega
    have haw : IntKind.i64.wrap a = a := by rw [IntKind.wrap_i64]; omega
    clear hown4 hs4 hs3 hb3 hb4 HB3 HB1
    simp only [HZ.out]
    go_wp2_with fail
    go_region_held3 (fun _ => True) (trivial)
      (first
        | (go_at_call 33; refine (kindsl_any x A0 n0 c0 _ HXN.out (HXS.out.on (by first | exact HB4.out | exact HB4.out.drew))).mono ?_; rintro e w5 ⟨AK5, cK5, rfl, hs5, hb5⟩; have HB5 := Lib.hid (Cell.bel_trans (by first | exact HB4.out | exact HB4.out.drew) hb5); have HP5 := Lib.hid (HP4.out.on (show Below w4.heap.size w4 w5 by first | exact hb5 | exact Cell.bel_trans (Below.refl _ _).drew hb5)))
        | (go_at_call 36; refine (rread_no (x.take 12) ((rowL la).take J) HR1.out AK5 _ cK5 A4 J c4 _ HK12.out HTJ.out hs5 (by have h := HP5.out.take (k := J) (by omega); rw [Nat.mul_one, u8s_take] at h; exact h) (HU.out.below HB5.out)).mono ?_; rintro e w6 ⟨rfl, hb6⟩))
    all_goals
      have HB6 := Lib.hid (Cell.bel_trans HB5.out hb6)
      have HP6 := Lib.hid (HP5.out.on hb6)
      clear hs5 hb5 hb6 HB5 HP5 HP4 HB4
      go_wp2_with fail
      refine (kindsl_any x A0 n0 c0 _ HXN.out (HXS.out.on HB6.out)).mono ?_
      rintro e w7 ⟨AK7, cK7, rfl, hs7, hb7⟩
      have HB7 := Lib.hid (Cell.bel_trans HB6.out hb7)
      have HP7 := Lib.hid (HP6.out.on hb7)
      have HK7 := Lib.hid hs7
      clear hs7 hb7 HB6 HP6
      go_wp2_with fail
      refine (copy_any (rowL la) A4 Z c4 _ HP7.out (by omega)).mono ?_
      rintro e w8 ⟨v8, rfl, ho8, hb8⟩
      have HO8 := Lib.hid ho8
      have HC8 := Lib.hid hb8
      have HB8 := Lib.hid (Cell.bel_trans HB7.out hb8)
      have hz8 := hb8.size
      clear ho8 hb8 HP7
      go_wp2_with fail
      refine (cut_any y A3 n3 c3 20 _ (HYS.out.on HB8.out) (by omega)).mono ?_
      rintro e w9 ⟨v9, rfl, ho9, hb9⟩
      have HO9 := Lib.hid ho9
      have HC9 := Lib.hid (HC8.out.trans (hb9.mono hz8))
      have HD9 := Lib.hid hb9
      have HE8 := Lib.hid (own_kept HO8.out hb9)
      have HB9 := Lib.hid (Cell.bel_trans HB8.out hb9)
      have hz9 := hb9.size
      clear ho9 hb9
      go_wp2_with (first
        | (at_builtin; refine wpl_app_b rfl (.tmp 49) (.tmp 50) rfl w8.heap.size v9 _ _ rfl (HO9.out.alloc _) _ _ 1 _ rfl (lies_lit _ _ _ 1 1 rfl) (one1 _ _) (by omega) (by rw [size_alloc]; omega) ?_; intro v10 w10 hown10 hg10; have hb10 : Below w8.heap.size w8 w10 := HD9.out.trans (((Cell.bel_alloc w9 _).mono hz9).trans (own_below hg10 (by rw [size_alloc]; omega) (HO9.out.alloc _))); obtain ⟨A10, c10, hv10, hs10⟩ := Sl.of_own hown10; subst hv10; have HE10 := Lib.hid (own_kept HO8.out hb10); have hz10 := hb10.size; have HS10 := Lib.hid hs10)
        | (at_builtin; refine wpl_app_b rfl (.tmp 47) (.tmp 51) rfl w7.heap.size v8 _ _ rfl HE10.out _ _ _ _ rfl HS10.out.lies (fun u hu => by rcases List.mem_append.1 hu with h | h; exact u8s_one _ u h; exact one1 _ _ u h) (by omega) (by omega) ?_; intro v11 w11 hown11 hg11; have hb11 : Below w7.heap.size w7 w11 := HC8.out.trans ((hb10.mono hz8).trans (own_below hg11 (by omega) HE10.out)); obtain ⟨A11, c11, hv11, hs11⟩ := Sl.of_own hown11; subst hv11))
      have HB11 := Lib.hid (Cell.bel_trans HB7.out hb11)
      have HK11 := Lib.hid (HK7.out.on hb11)
      have hx11 : u8s (rowL la) ++ (u8s (y.take 20) ++ #[Value.int .u8 0].toList) = u8s (rowL la ++ (y.take 20 ++ [0])) := by rw [u8s_app, u8s_app]; rfl
      rw [hx11] at hs11
      clear hown10 hg10 hs10 hown11 hg11 HE10 HS10 hb10 hb11 hx11
      refine (rread_no (x.take 12) _ HR2.out AK7 _ cK7 A11 _ c11 _ HK12.out (by have h := hs11.len; rw [u8s_len] at h; omega) HK11.out hs11 (HU.out.below HB11.out)).mono ?_
      rintro e w12 ⟨rfl, hb12⟩
      have HB12 := Lib.hid (Cell.bel_trans HB11.out hb12)
      clear hb12 hs11
      go_wp2_with fail
      go_ret
      exact ⟨rfl, HB12.out⟩
theorem cuts_walk (w : World) (x : List UInt8) (A0 : Option Addr) (n0 c0 : Nat) (l : List V) (A : Option Addr) (N c : Nat) (a : Int) (y : List UInt8) (A3 : Option Addr) (n3 c3 : Nat) (hx : x.length = n0) (hxs : Sl w w.heap.size 1 A0 n0 c0 (u8s x)) (hl : l.length = N) (hs : Sl w w.heap.size 4 A N c (vals l)) (hok : ∀ v ∈ l, v.ok) (ha0 : 0 ≤ a) (ha1 : a ≤ 255) (hy : y.length = n3) (hys : Sl w w.heap.size 1 A3 n3 c3 (u8s y)) (hU : U8 w) :
    Calls Tryd.prog 12 #[.slice A0 n0 c0, .slice A N c, .int .u8 a, .slice A3 n3 c3] w fun e w' => e = .returned (.bool true) ∧ Below w.heap.size w w' := by
  have hs' := hs.take (k := min N 12) (by omega)
  rw [vals_take] at hs'
  have l1 : (l.take (min N 12)).length = min N 12 := by rw [List.length_take, hl]; omega
  by_cases hf : fitsE (x.take 12) (l.take (min N 12)) = 0
  · exact cuts_y x A0 n0 c0 _ A (min N 12) c a y A3 n3 c3 w hx hxs l1 N (by omega) (by omega) hs' hs.le (all_take hok) ha0 ha1 hy hys hf hU
  · exact cuts_n x A0 n0 c0 _ A (min N 12) c a y A3 n3 c3 w hx hxs l1 N (by omega) (by omega) hs' hs.le (all_take hok) ha0 ha1 hy hys _ rfl hf hU
end Go.Proofs.YtfabcnbblhadnaaDoor.Mem
