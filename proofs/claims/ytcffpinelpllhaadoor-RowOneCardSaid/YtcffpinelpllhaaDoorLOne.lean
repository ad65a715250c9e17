/- RowOne: its walk. -/
import Derived.Test.YtcffpinelpllhaaDoorRowInj
namespace Go.Proofs.YtcffpinelpllhaaDoor.Mem
open Go.RowKit Go.Proofs.YtcffpinelpllhaaDoor.Nums
open Go.Proofs.YtcffpinelpllhaaDoor.Cell (U8)
set_option linter.unusedVariables false
set_option linter.unusedSimpArgs false
set_option maxRecDepth 100000
theorem one_n (x : List UInt8) (A0 : Option Addr) (n0 c0 : Nat) (la lb : List V) (A : Option Addr) (n c : Nat) (A' : Option Addr) (n' c' : Nat) (w : World) (hx : x.length = n0) (hxs : Sl w w.heap.size 1 A0 n0 c0 (u8s x)) (hla : la.length = n) (hlb : lb.length = n') (N N' : Nat) (hm1 : min (N : Int) 12 = (n : Int)) (hm2 : min (N' : Int) 12 = (n' : Int)) (hN : n ≤ N) (hN' : n' ≤ N') (ha : Sl w w.heap.size 4 A n c (vals la)) (hb : Sl w w.heap.size 4 A' n' c' (vals lb)) (hcn : N ≤ c) (hcn' : N' ≤ c') (hoka : ∀ v ∈ la, v.ok) (hokb : ∀ v ∈ lb, v.ok) (F1 : Int) (hF1 : fitsE (x.take 12) la = F1) (hf1 : F1 ≠ 0) (hU : U8 w) :
    Calls Tryd.prog 11 #[.slice A0 n0 c0, .slice A N c, .slice A' N' c'] w fun e w' => e = .returned (.bool true) ∧ Below w.heap.size w w' := by
  have hc := ha.cap
  have hc' := hb.cap
  unfold maxLen at hc hc'
  have hKc : (n : Int) ≤ c := by omega
  have hKc' : (n' : Int) ≤ c' := by omega
  have HSA := Lib.hid ha
  have HSB := Lib.hid hb
  have HU := Lib.hid hU
  have HLA := Lib.hid hla
  have HLB := Lib.hid hlb
  have HOA := Lib.hid hoka
  have HOB := Lib.hid hokb
  have HXS := Lib.hid hxs
  have HXN := Lib.hid hx
  have HK12 : Hid ((x.take 12).length = min n0 12) := Lib.hid (by rw [List.length_take, hx]; omega)
  clear ha hb hU hla hlb hoka hokb hxs hx
  have HF1 := Lib.hid hF1
  have Hf1 := Lib.hid hf1
  have hg1 : (F1 != 0) = true := by rw [bne_iff_ne]; exact hf1
  have hg1' : (F1 == 0) = false := by rw [beq_eq_false_iff_ne]; exact hf1
  clear hF1 hf1
  go_enter Tryd.func11, Tryd.ntmps11
  go_wp2_with fail
  refine (awake_r _ HU.out).mono ?_
  rintro e w1 ⟨rfl, hb1⟩
  have HB1 := Lib.hid hb1
  clear hb1
  go_wp2_with fail
  go_quiet (fail)
  go_wp2_with fail
  obtain ⟨w2, hw2⟩ : ∃ w2, w1.drewN nq = w2 := ⟨_, rfl⟩
  have HB2 : Hid (Below w.heap.size w w2) := Lib.hid (by rw [← hw2]; exact bel_drewN HB1.out nq)
  rw [hw2]
  clear hw2 HB1 hm1 hm2
  refine (kindsl_any x A0 n0 c0 _ HXN.out (HXS.out.on HB2.out)).mono ?_
  rintro e w3 ⟨A3, c3, rfl, hs3, hb3⟩
  have HS3 := Lib.hid hs3
  have HB3 := Lib.hid (Cell.bel_trans HB2.out hb3)
  clear hs3 hb3
  go_wp2_with fail
  refine (rbytes_no (x.take 12) la F1 HF1.out Hf1.out A3 _ c3 A n c _ HK12.out HLA.out HS3.out (HSA.out.on HB3.out) HOA.out (HU.out.below HB3.out)).mono ?_
  rintro e w4 ⟨rfl, hb4⟩
  have HB4 := Lib.hid (Cell.bel_trans HB3.out hb4)
  clear hb4
  go_wp2_with fail
  refine (kindsl_any x A0 n0 c0 _ HXN.out (HXS.out.on HB4.out)).mono ?_
  rintro e w5 ⟨A5, c5, rfl, hs5, hb5⟩
  have HS5 := Lib.hid hs5
  have HB5 := Lib.hid (Cell.bel_trans HB4.out hb5)
  have HQ5 := Lib.hid hb5
  clear hs5 hb5
  go_wp2_with fail
  obtain ⟨F2, hF2⟩ : ∃ F2, fitsE (x.take 12) lb = F2 := ⟨_, rfl⟩
  have HF2 := Lib.hid hF2
  clear hF2
  refine (rbytes_any (x.take 12) lb A5 _ c5 A' n' c' _ HK12.out HLB.out HS5.out (HSB.out.on HB5.out) HOB.out (HU.out.below HB5.out)).mono ?_
  rintro e w6 ⟨hb6, h6⟩
  have HB6 := Lib.hid (Cell.bel_trans HB5.out hb6)
  clear hb6
  rcases h6 with ⟨_, p6, rfl, hown6⟩ | ⟨_, rfl⟩
  · clear hown6
    go_wp2_with fail
    go_ret
    exact ⟨rfl, HB6.out⟩
  · generalize fitsE (x.take 12) lb = F2 at *
    go_wp2_with fail
    go_ret
    exact ⟨rfl, HB6.out⟩
theorem one_yn (x : List UInt8) (A0 : Option Addr) (n0 c0 : Nat) (la lb : List V) (A : Option Addr) (n c : Nat) (A' : Option Addr) (n' c' : Nat) (w : World) (hx : x.length = n0) (hxs : Sl w w.heap.size 1 A0 n0 c0 (u8s x)) (hla : la.length = n) (hlb : lb.length = n') (N N' : Nat) (hm1 : min (N : Int) 12 = (n : Int)) (hm2 : min (N' : Int) 12 = (n' : Int)) (hN : n ≤ N) (hN' : n' ≤ N') (ha : Sl w w.heap.size 4 A n c (vals la)) (hb : Sl w w.heap.size 4 A' n' c' (vals lb)) (hcn : N ≤ c) (hcn' : N' ≤ c') (hoka : ∀ v ∈ la, v.ok) (hokb : ∀ v ∈ lb, v.ok) (hF1 : fitsE (x.take 12) la = 0) (F2 : Int) (hF2 : fitsE (x.take 12) lb = F2) (hf2 : F2 ≠ 0) (hU : U8 w) :
    Calls Tryd.prog 11 #[.slice A0 n0 c0, .slice A N c, .slice A' N' c'] w fun e w' => e = .returned (.bool true) ∧ Below w.heap.size w w' := by
  have hc := ha.cap
  have hc' := hb.cap
  unfold maxLen at hc hc'
  have hKc : (n : Int) ≤ c := by omega
  have hKc' : (n' : Int) ≤ c' := by omega
  have HSA := Lib.hid ha
  have HSB := Lib.hid hb
  have HU := Lib.hid hU
  have HLA := Lib.hid hla
  have HLB := Lib.hid hlb
  have HOA := Lib.hid hoka
  have HOB := Lib.hid hokb
  have HXS := Lib.hid hxs
  have HXN := Lib.hid hx
  have HK12 : Hid ((x.take 12).length = min n0 12) := Lib.hid (by rw [List.length_take, hx]; omega)
  clear ha hb hU hla hlb hoka hokb hxs hx
  have HF1 := Lib.hid hF1
  clear hF1
  have HF2 := Lib.hid hF2
  have Hf2 := Lib.hid hf2
  have hg2 : (F2 != 0) = true := by rw [bne_iff_ne]; exact hf2
  have hg2' : (F2 == 0) = false := by rw [beq_eq_false_iff_ne]; exact hf2
  clear hF2 hf2
  go_enter Tryd.func11, Tryd.ntmps11
  go_wp2_with fail
  refine (awake_r _ HU.out).mono ?_
  rintro e w1 ⟨rfl, hb1⟩
  have HB1 := Lib.hid hb1
  clear hb1
  go_wp2_with fail
  go_quiet (fail)
  go_wp2_with fail
  obtain ⟨w2, hw2⟩ : ∃ w2, w1.drewN nq = w2 := ⟨_, rfl⟩
  have HB2 : Hid (Below w.heap.size w w2) := Lib.hid (by rw [← hw2]; exact bel_drewN HB1.out nq)
  rw [hw2]
  clear hw2 HB1 hm1 hm2
  refine (kindsl_any x A0 n0 c0 _ HXN.out (HXS.out.on HB2.out)).mono ?_
  rintro e w3 ⟨A3, c3, rfl, hs3, hb3⟩
  have HS3 := Lib.hid hs3
  have HB3 := Lib.hid (Cell.bel_trans HB2.out hb3)
  clear hs3 hb3
  go_wp2_with fail
  refine (rbytes_ok (x.take 12) la HF1.out A3 _ c3 A n c _ HK12.out HLA.out HS3.out (HSA.out.on HB3.out) HOA.out (HU.out.below HB3.out)).mono ?_
  rintro e w4 ⟨A4, c4, rfl, hown4, hs4, hb4⟩
  have HP4 := Lib.hid hs4
  have HB4 := Lib.hid (Cell.bel_trans HB3.out hb4)
  clear hown4 hs4 hb4
  go_wp2_with fail
  refine (kindsl_any x A0 n0 c0 _ HXN.out (HXS.out.on HB4.out)).mono ?_
  rintro e w5 ⟨A5, c5, rfl, hs5, hb5⟩
  have HS5 := Lib.hid hs5
  have HB5 := Lib.hid (Cell.bel_trans HB4.out hb5)
  have HQ5 := Lib.hid hb5
  clear hs5 hb5
  go_wp2_with fail
  refine (rbytes_no (x.take 12) lb F2 HF2.out Hf2.out A5 _ c5 A' n' c' _ HK12.out HLB.out HS5.out (HSB.out.on HB5.out) HOB.out (HU.out.below HB5.out)).mono ?_
  rintro e w6 ⟨rfl, hb6⟩
  have HB6 := Lib.hid (Cell.bel_trans HB5.out hb6)
  clear hb6
  go_wp2_with fail
  go_ret
  exact ⟨rfl, HB6.out⟩
theorem one_yy (x : List UInt8) (A0 : Option Addr) (n0 c0 : Nat) (la lb : List V) (A : Option Addr) (n c : Nat) (A' : Option Addr) (n' c' : Nat) (w : World) (hx : x.length = n0) (hxs : Sl w w.heap.size 1 A0 n0 c0 (u8s x)) (hla : la.length = n) (hlb : lb.length = n') (N N' : Nat) (hm1 : min (N : Int) 12 = (n : Int)) (hm2 : min (N' : Int) 12 = (n' : Int)) (hN : n ≤ N) (hN' : n' ≤ N') (ha : Sl w w.heap.size 4 A n c (vals la)) (hb : Sl w w.heap.size 4 A' n' c' (vals lb)) (hcn : N ≤ c) (hcn' : N' ≤ c') (hoka : ∀ v ∈ la, v.ok) (hokb : ∀ v ∈ lb, v.ok) (hF1 : fitsE (x.take 12) la = 0) (hF2 : fitsE (x.take 12) lb = 0) (hU : U8 w) :
    Calls Tryd.prog 11 #[.slice A0 n0 c0, .slice A N c, .slice A' N' c'] w fun e w' => e = .returned (.bool true) ∧ Below w.heap.size w w' := by
  have hc := ha.cap
  have hc' := hb.cap
  unfold maxLen at hc hc'
  have hKc : (n : Int) ≤ c := by omega
  have hKc' : (n' : Int) ≤ c' := by omega
  have HSA := Lib.hid ha
  have HSB := Lib.hid hb
  have HU := Lib.hid hU
  have HLA := Lib.hid hla
  have HLB := Lib.hid hlb
  have HOA := Lib.hid hoka
  have HOB := Lib.hid hokb
  have HXS := Lib.hid hxs
  have HXN := Lib.hid hx
  have HK12 : Hid ((x.take 12).length = min n0 12) := Lib.hid (by rw [List.length_take, hx]; omega)
  clear ha hb hU hla hlb hoka hokb hxs hx
  have HF1 := Lib.hid hF1
  clear hF1
  have HF2 := Lib.hid hF2
  clear hF2
  go_enter Tryd.func11, Tryd.ntmps11
  go_wp2_with fail
  refine (awake_r _ HU.out).mono ?_
  rintro e w1 ⟨rfl, hb1⟩
  have HB1 := Lib.hid hb1
  clear hb1
  go_wp2_with fail
  go_quiet (fail)
  go_wp2_with fail
  obtain ⟨w2, hw2⟩ : ∃ w2, w1.drewN nq = w2 := ⟨_, rfl⟩
  have HB2 : Hid (Below w.heap.size w w2) := Lib.hid (by rw [← hw2]; exact bel_drewN HB1.out nq)
  rw [hw2]
  clear hw2 HB1 hm1 hm2
  refine (kindsl_any x A0 n0 c0 _ HXN.out (HXS.out.on HB2.out)).mono ?_
  rintro e w3 ⟨A3, c3, rfl, hs3, hb3⟩
  have HS3 := Lib.hid hs3
  have HB3 := Lib.hid (Cell.bel_trans HB2.out hb3)
  clear hs3 hb3
  go_wp2_with fail
  refine (rbytes_ok (x.take 12) la HF1.out A3 _ c3 A n c _ HK12.out HLA.out HS3.out (HSA.out.on HB3.out) HOA.out (HU.out.below HB3.out)).mono ?_
  rintro e w4 ⟨A4, c4, rfl, hown4, hs4, hb4⟩
  have HP4 := Lib.hid hs4
  have HB4 := Lib.hid (Cell.bel_trans HB3.out hb4)
  clear hown4 hs4 hb4
  go_wp2_with fail
  refine (kindsl_any x A0 n0 c0 _ HXN.out (HXS.out.on HB4.out)).mono ?_
  rintro e w5 ⟨A5, c5, rfl, hs5, hb5⟩
  have HS5 := Lib.hid hs5
  have HB5 := Lib.hid (Cell.bel_trans HB4.out hb5)
  have HQ5 := Lib.hid hb5
  clear hs5 hb5
  go_wp2_with fail
  refine (rbytes_ok (x.take 12) lb HF2.out A5 _ c5 A' n' c' _ HK12.out HLB.out HS5.out (HSB.out.on HB5.out) HOB.out (HU.out.below HB5.out)).mono ?_
  rintro e w6 ⟨A6, c6, rfl, hown6, hs6, hb6⟩
  have HQ6 := Lib.hid hs6
  have HB6 := Lib.hid (Cell.bel_trans HB5.out hb6)
  have HP6 := Lib.hid (HP4.out.on (Cell.bel_trans HQ5.out hb6))
  have HE := Lib.hid (row_told HF1.out HF2.out HOA.out HOB.out)
  clear hown6 hs6 hb6
  go_wp2_with fail
  refine (same_any (rowL la) (rowL lb) A4 _ c4 A6 _ c6 _ HP6.out HQ6.out).mono ?_
  rintro e w7 ⟨rfl, rfl⟩
  rw [HE.out]
  go_wp2_with fail
  refine (sameRow_any la lb A n c A' n' c' _ HLA.out HLB.out (HSA.out.on HB6.out) (HSB.out.on HB6.out)).mono ?_
  rintro e w8 ⟨rfl, hb8⟩
  have HB8 := Lib.hid (Cell.bel_trans HB6.out hb8)
  clear hb8
  go_wp2_with fail
  go_ret
  exact ⟨by simp, HB8.out⟩
theorem one_walk (w : World) (x : List UInt8) (A0 : Option Addr) (n0 c0 : Nat) (la : List V) (A : Option Addr) (N c : Nat) (lb : List V) (A' : Option Addr) (N' c' : Nat) (hx : x.length = n0) (hxs : Sl w w.heap.size 1 A0 n0 c0 (u8s x)) (hla : la.length = N) (ha : Sl w w.heap.size 4 A N c (vals la)) (hoka : ∀ v ∈ la, v.ok) (hlb : lb.length = N') (hb : Sl w w.heap.size 4 A' N' c' (vals lb)) (hokb : ∀ v ∈ lb, v.ok) (hU : U8 w) :
    Calls Tryd.prog 11 #[.slice A0 n0 c0, .slice A N c, .slice A' N' c'] w fun e w' => e = .returned (.bool true) ∧ Below w.heap.size w w' := by
  have ha' := ha.take (k := min N 12) (by omega)
  have hb' := hb.take (k := min N' 12) (by omega)
  rw [vals_take] at ha' hb'
  have l1 : (la.take (min N 12)).length = min N 12 := by rw [List.length_take, hla]; omega
  have l2 : (lb.take (min N' 12)).length = min N' 12 := by rw [List.length_take, hlb]; omega
  by_cases f1 : fitsE (x.take 12) (la.take (min N 12)) = 0
  · by_cases f2 : fitsE (x.take 12) (lb.take (min N' 12)) = 0
    · exact one_yy x A0 n0 c0 _ _ A _ c A' _ c' w hx hxs l1 l2 N N' (by omega) (by omega) (by omega) (by omega) ha' hb' ha.le hb.le (all_take hoka) (all_take hokb) f1 f2 hU
    · exact one_yn x A0 n0 c0 _ _ A _ c A' _ c' w hx hxs l1 l2 N N' (by omega) (by omega) (by omega) (by omega) ha' hb' ha.le hb.le (all_take hoka) (all_take hokb) f1 _ rfl f2 hU
  · exact one_n x A0 n0 c0 _ _ A _ c A' _ c' w hx hxs l1 l2 N N' (by omega) (by omega) (by omega) (by omega) ha' hb' ha.le hb.le (all_take hoka) (all_take hokb) _ rfl f1 hU
end Go.Proofs.YtcffpinelpllhaaDoor.Mem
