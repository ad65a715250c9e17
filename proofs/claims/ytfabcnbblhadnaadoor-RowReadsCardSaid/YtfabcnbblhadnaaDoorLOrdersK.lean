/- KeyOrders: its walk. -/
import Derived.Test.YtfabcnbblhadnaaDoorKLess
import Derived.Test.YtfabcnbblhadnaaDoorLJoins
namespace Go.Proofs.YtfabcnbblhadnaaDoor.Mem
open Go.RowKit Go.Proofs.YtfabcnbblhadnaaDoor.Nums
open Go.Proofs.YtfabcnbblhadnaaDoor.Cell (U8 sameR lessR)
open Go.Op (bytesLess)
set_option linter.unusedVariables false
set_option linter.unusedSimpArgs false
set_option maxRecDepth 100000
attribute [local irreducible] wpQuiet
def min3 (x y z : Int) : Int := if z < (if y < x then y else x) then z else (if y < x then y else x)
theorem run_min3 {P : Program} {w : World} (ts : Array TypeId) (t : TypeId) (k k' k'' : IntKind) (x y z : Int) : (Builtin.min_ ts t #[.int k x, .int k' y, .int k'' z]).run P w = .ok (.int k (min3 x y z)) w := run_min_int3 w ts t k k' k'' x y z
attribute [local go_sem high] run_min3
theorem rows_less {la lb : List V} {k : Nat} {a b : V} (ha : la[k]? = some a) (hb : lb[k]? = some b) (hpre : la.take k = lb.take k) (ra : la.all V.right = true) (rb : lb.all V.right = true) (oa : ∀ v ∈ la, v.ok) (ob : ∀ v ∈ lb, v.ok) (h : a.less b = true) : bytesLess (rowBytes la) (rowBytes lb) = true := by
  have e : ∀ {l : List V} {v : V}, l[k]? = some v → rowBytes l = rowBytes (l.take k) ++ (v.bytes ++ rowBytes (l.drop (k + 1))) := by
    intro l v hv
    obtain ⟨hk, e⟩ := List.getElem?_eq_some_iff.1 hv
    conv => lhs; rw [← List.take_append_drop k l, rowBytes_app, List.drop_eq_getElem_cons hk, e]
    rfl
  rw [e ha, e hb, hpre, bl_app]
  have hra := (List.all_eq_true.1 ra) a (List.mem_of_getElem? ha)
  have hrb := (List.all_eq_true.1 rb) b (List.mem_of_getElem? hb)
  exact bytes_less hra hrb (oa a (List.mem_of_getElem? ha)).1 (ob b (List.mem_of_getElem? hb)).1 h _ _
theorem orders_yy (la lb : List V) (A : Option Addr) (n c : Nat) (A' : Option Addr) (c' : Nat) (w : World) (hla : la.length = n) (hlb : lb.length = n) (hn8 : n ≤ 8) (N N' : Nat) (hN : n ≤ N) (hN' : n ≤ N') (hm : min3 (N : Int) (N' : Int) 8 = (n : Int)) (ha : Sl w w.heap.size 4 A n c (vals la)) (hb : Sl w w.heap.size 4 A' n c' (vals lb)) (hcn : N ≤ c) (hcn' : N' ≤ c') (hoka : ∀ v ∈ la, v.ok) (hokb : ∀ v ∈ lb, v.ok) (hra : la.all V.right = true) (hrb : lb.all V.right = true) (hU : U8 w) :
    Calls Tryd.prog 5 #[.slice A N c, .slice A' N' c'] w fun e w' => e = .returned (.bool true) ∧ Below w.heap.size w w' := by
  have hc := ha.cap
  have hc' := hb.cap
  unfold maxLen at hc hc'
  have hKc : (n : Int) ≤ c := by omega
  have hKc' : (n : Int) ≤ c' := by omega
  have HSA := Lib.hid ha
  have HSB := Lib.hid hb
  have HU := Lib.hid hU
  have HLA := Lib.hid hla
  have HLB := Lib.hid hlb
  have HOA := Lib.hid hoka
  have HOB := Lib.hid hokb
  have HRA := Lib.hid hra
  have HRB := Lib.hid hrb
  clear ha hb hU hla hlb hoka hokb hra hrb
  go_enter Tryd.func5, Tryd.ntmps5
  go_wp2_with fail
  refine (awake_k _ HU.out).mono ?_
  rintro e w1 ⟨rfl, hb1⟩
  have HB1 := Lib.hid hb1
  clear hb1
  go_wp2_with fail
  refine (kbytes_ok la HRA.out A n c _ HLA.out (by omega) (HSA.out.on HB1.out) HOA.out (HU.out.below HB1.out)).mono ?_
  rintro e w2 ⟨A2, c2, rfl, hown2, hb2⟩
  obtain ⟨A2', c2', he, hs⟩ := Sl.of_own hown2
  injection he with e1 e2 e3
  subst e1 e3
  have HP2 := Lib.hid hs
  have HX2 := Lib.hid hb2
  have HB2 := Lib.hid (Cell.bel_trans HB1.out hb2)
  clear hown2 hb2 hs e2
  go_wp2_with fail
  refine (kbytes_ok lb HRB.out A' n c' _ HLB.out (by omega) (HSB.out.on HB2.out) HOB.out (HU.out.below HB2.out)).mono ?_
  rintro e w3 ⟨A3, c3, rfl, hown3, hb3⟩
  obtain ⟨A3', c3', he, hs⟩ := Sl.of_own hown3
  injection he with e1 e2 e3
  subst e1 e3
  have HP3 := Lib.hid hs
  have HX3 := Lib.hid hb3
  have HB3 := Lib.hid (Cell.bel_trans HB2.out hb3)
  clear hown3 hb3 hs e2
  go_wp2_with fail
  have HP2 := Lib.hid (HP2.out.on HX3.out)
  have hs3 := HB3.out.size
  clear HX2 HX3 hm
  go_loopw [44] (fun i wr => ∃ k : Nat, k ≤ n ∧ i = .int .i64 k ∧ la.take k = lb.take k ∧ Below w3.heap.size w3 wr) (fun i _ => n - (intOf i).toNat)
  case atStart => exact ⟨0, by omega, rfl, rfl, Below.refl _ _⟩
  case round =>
    obtain ⟨k, hk, rfl, hpre, hbr⟩ := hrel
    have HPRE := Lib.hid hpre
    have HBR := Lib.hid hbr
    clear hpre hbr
    by_cases hlt : k < n
    · have hlt' : (k : Int) < n := by omega
      have hk0 : (0 : Int) ≤ (k : Int) := Int.natCast_nonneg _
      have hkN : (k : Int) < N := by omega
      have hkN' : (k : Int) < N' := by omega
      obtain ⟨a, hva⟩ : ∃ v, la[k]? = some v := ⟨_, List.getElem?_eq_getElem (by rw [HLA.out]; exact hlt)⟩
      obtain ⟨b, hvb⟩ : ∃ v, lb[k]? = some v := ⟨_, List.getElem?_eq_getElem (by rw [HLB.out]; exact hlt)⟩
      obtain ⟨ad, hA, hAt⟩ := HSA.out.at_ (by omega)
      obtain ⟨ad', hA', hAt'⟩ := HSB.out.at_ (by omega)
      subst hA hA'
      have HBW := Lib.hid (Cell.bel_trans HB3.out HBR.out)
      have HVA : Hid (ValAt wr (ad.add (k * 4)) a) := Lib.hid ((hAt.below HBW.out).val hva)
      have HVB : Hid (ValAt wr (ad'.add (k * 4)) b) := Lib.hid ((hAt'.below HBW.out).val hvb)
      have HATA : Hid ((ad.add (k * 4)).block < w.heap.size) := Lib.hid (by rw [add_block]; exact hAt.1)
      have HATB : Hid ((ad'.add (k * 4)).block < w.heap.size) := Lib.hid (by rw [add_block]; exact hAt'.1)
      have Ha := Lib.hid hva
      have Hb := Lib.hid hvb
      have hra := (List.all_eq_true.1 HRA.out) a (List.mem_of_getElem? hva)
      have hrb := (List.all_eq_true.1 HRB.out) b (List.mem_of_getElem? hvb)
      have hia := (HOA.out a (List.mem_of_getElem? hva)).1
      have hib := (HOB.out b (List.mem_of_getElem? hvb)).1
      have HEQ : Hid (a.same b = true → a = b) := Lib.hid (same_right hra hrb hia hib)
      have HL1 : Hid (a.less b = true → bytesLess (rowBytes la) (rowBytes lb) = true) := Lib.hid (rows_less hva hvb HPRE.out HRA.out HRB.out HOA.out HOB.out)
      have HL2 : Hid (b.less a = true → bytesLess (rowBytes lb) (rowBytes la) = true) := Lib.hid (rows_less hvb hva HPRE.out.symm HRB.out HRA.out HOB.out HOA.out)
      have HSS : Hid (a.same b = (!a.less b && !b.less a)) := Lib.hid rfl
      clear hva hvb hAt hAt' hra hrb hia hib
      have S0 := fun w => Cell.sameR_any a.k a.i a.s a.b b.k b.i b.s b.b w
      have T0 := fun w => Cell.lessR_any a.k a.i a.s a.b b.k b.i b.s b.b w
      have es : sameR a.k a.i a.s a.b b.k b.i b.s b.b = a.same b := rfl
      have et : lessR a.k a.i a.s a.b b.k b.i b.s b.b = a.less b := rfl
      rw [es] at S0
      rw [et] at T0
      have ST := Lib.hid T0
      clear es et T0
      cases hsm : a.same b
      · rw [hsm] at S0 HSS
        have SS := Lib.hid S0
        clear S0 hsm
        go_wp2_with fail
        have x0 := cell_regrown HVA.out.c0
        have x1 := cell_regrown HVA.out.c1
        have x2 := cell_regrown HVA.out.c2
        have x3 := cell_regrown HVA.out.c3
        have y0 := cell_regrown HVB.out.c0
        have y1 := cell_regrown HVB.out.c1
        have y2 := cell_regrown HVB.out.c2
        have y3 := cell_regrown HVB.out.c3
        have q0 := fun d os => Calls.regrown_of (w := wr) (d := d) (os := os) (SS.out _)
        refine wp_region_quiet_below (by kernel_rfl) (by kernel_rfl) ?_
        repeat (quiet_step (first | (with_reducible exact q0 _ _)))
        refine wpQuiet_nil ?_
        intro _ hw'
        obtain ⟨⟨dq, osq⟩, hw''⟩ := hw'
        subst hw''
        have HBQ := Lib.hid (below_regrown wr dq osq)
        clear x0 x1 x2 x3 y0 y1 y2 y3 q0
        generalize Go.Sort.grow (redrawn wr dq) osq = w5 at *
        have HVA5 := Lib.hid (HVA.out.below (B := wr.heap.size) (Nat.lt_of_lt_of_le HATA.out HBW.out.size) HBQ.out)
        have HVB5 := Lib.hid (HVB.out.below (B := wr.heap.size) (Nat.lt_of_lt_of_le HATB.out HBW.out.size) HBQ.out)
        have HBQ3 := Lib.hid (Cell.bel_trans HBR.out HBQ.out)
        clear HVA HVB
        cases hle : a.less b
        · have hba : b.less a = true := by
            have := HSS.out
            rw [hle] at this
            simpa using this
          have hq := HL2.out hba
          have hp := bl_asym _ _ hq
          rw [hle] at ST
          have HQ := Lib.hid hq
          have HP := Lib.hid hp
          clear hle hba hq hp HSS HL1 HL2 HEQ
          go_wp2_with fail
          have x0 := cell_regrown HVA5.out.c0
          have x1 := cell_regrown HVA5.out.c1
          have x2 := cell_regrown HVA5.out.c2
          have x3 := cell_regrown HVA5.out.c3
          have y0 := cell_regrown HVB5.out.c0
          have y1 := cell_regrown HVB5.out.c1
          have y2 := cell_regrown HVB5.out.c2
          have y3 := cell_regrown HVB5.out.c3
          have q0 := fun d os => Calls.regrown_of (w := w5) (d := d) (os := os) (ST.out _)
          refine wp_region_quiet_below (by kernel_rfl) (by kernel_rfl) ?_
          repeat (quiet_step (first | (with_reducible exact q0 _ _)))
          refine wpQuiet_nil ?_
          intro _ hw'
          obtain ⟨⟨dq2, osq2⟩, hw''⟩ := hw'
          subst hw''
          have HBQ6 := Lib.hid (Cell.bel_trans HBQ3.out (below_regrown w5 dq2 osq2))
          clear x0 x1 x2 x3 y0 y1 y2 y3 q0
          generalize Go.Sort.grow (redrawn w5 dq2) osq2 = w6 at *
          have HS1 := Lib.hid (HP2.out.on HBQ6.out)
          have HS2 := Lib.hid (HP3.out.on HBQ6.out)
          go_wp2_with fail
          refine (kless_any _ _ _ _ _ _ _ _ _ HS1.out HS2.out).mono ?_
          rintro e w7 ⟨rfl, rfl⟩
          rw [HP.out]
          go_wp2_with fail
          refine (kless_any _ _ _ _ _ _ _ _ _ HS2.out HS1.out).mono ?_
          rintro e w8 ⟨rfl, rfl⟩
          rw [HQ.out]
          go_wp2_with fail
          go_ret
          exact ⟨rfl, Cell.bel_trans HB3.out HBQ6.out⟩
        · have hp := HL1.out hle
          have hq := bl_asym _ _ hp
          rw [hle] at ST
          have HQ := Lib.hid hq
          have HP := Lib.hid hp
          clear hle hq hp HSS HL1 HL2 HEQ
          go_wp2_with fail
          have x0 := cell_regrown HVA5.out.c0
          have x1 := cell_regrown HVA5.out.c1
          have x2 := cell_regrown HVA5.out.c2
          have x3 := cell_regrown HVA5.out.c3
          have y0 := cell_regrown HVB5.out.c0
          have y1 := cell_regrown HVB5.out.c1
          have y2 := cell_regrown HVB5.out.c2
          have y3 := cell_regrown HVB5.out.c3
          have q0 := fun d os => Calls.regrown_of (w := w5) (d := d) (os := os) (ST.out _)
          refine wp_region_quiet_below (by kernel_rfl) (by kernel_rfl) ?_
          repeat (quiet_step (first | (with_reducible exact q0 _ _)))
          refine wpQuiet_nil ?_
          intro _ hw'
          obtain ⟨⟨dq2, osq2⟩, hw''⟩ := hw'
          subst hw''
          have HBQ6 := Lib.hid (Cell.bel_trans HBQ3.out (below_regrown w5 dq2 osq2))
          clear x0 x1 x2 x3 y0 y1 y2 y3 q0
          generalize Go.Sort.grow (redrawn w5 dq2) osq2 = w6 at *
          have HS1 := Lib.hid (HP2.out.on HBQ6.out)
          have HS2 := Lib.hid (HP3.out.on HBQ6.out)
          go_wp2_with fail
          refine (kless_any _ _ _ _ _ _ _ _ _ HS1.out HS2.out).mono ?_
          rintro e w7 ⟨rfl, rfl⟩
          rw [HP.out]
          go_wp2_with fail
          refine (kless_any _ _ _ _ _ _ _ _ _ HS2.out HS1.out).mono ?_
          rintro e w8 ⟨rfl, rfl⟩
          rw [HQ.out]
          go_wp2_with fail
          go_ret
          exact ⟨rfl, Cell.bel_trans HB3.out HBQ6.out⟩
      · rw [hsm] at S0
        have hab := HEQ.out hsm
        have HAB := Lib.hid hab
        have SS := Lib.hid S0
        clear S0 hsm hab HSS HL1 HL2 HEQ
        go_wp2_with fail
        have x0 := cell_regrown HVA.out.c0
        have x1 := cell_regrown HVA.out.c1
        have x2 := cell_regrown HVA.out.c2
        have x3 := cell_regrown HVA.out.c3
        have y0 := cell_regrown HVB.out.c0
        have y1 := cell_regrown HVB.out.c1
        have y2 := cell_regrown HVB.out.c2
        have y3 := cell_regrown HVB.out.c3
        have q0 := fun d os => Calls.regrown_of (w := wr) (d := d) (os := os) (SS.out _)
        refine wp_region_quiet_below (by kernel_rfl) (by kernel_rfl) ?_
        repeat (quiet_step (first | (with_reducible exact q0 _ _)))
        refine wpQuiet_nil ?_
        intro _ hw'
        obtain ⟨⟨dq, osq⟩, hw''⟩ := hw'
        subst hw''
        have HBQ := Lib.hid (below_regrown wr dq osq)
        clear x0 x1 x2 x3 y0 y1 y2 y3 q0
        generalize Go.Sort.grow (redrawn wr dq) osq = w5 at *
        have HBQ3 := Lib.hid (Cell.bel_trans HBR.out HBQ.out)
        clear HVA HVB
        go_wp2_with fail
        go_roundw
        case rel => exact ⟨k + 1, by omega, by go_num, by rw [take_succ_of Ha.out, take_succ_of Hb.out, HPRE.out, HAB.out], HBQ3.out⟩
        case measure => simp [intOf]; omega
    · obtain rfl : k = n := by omega
      have hab : la = lb := by
        have h := HPRE.out
        rw [List.take_of_length_le (by rw [HLA.out]; omega), List.take_of_length_le (by rw [HLB.out]; omega)] at h
        exact h
      subst hab
      have HBR3 := Lib.hid (Cell.bel_trans HB3.out HBR.out)
      have HS1 := Lib.hid (HP2.out.on HBR.out)
      have HS2 := Lib.hid (HP3.out.on HBR.out)
      go_wp2_with fail
      refine (same_any _ _ _ _ _ _ _ _ _ HS1.out HS2.out).mono ?_
      rintro e w6 ⟨rfl, rfl⟩
      simp only [decide_true]
      go_wp2_with fail
      refine (kless_any _ _ _ _ _ _ _ _ _ HS1.out HS2.out).mono ?_
      rintro e w7 ⟨rfl, rfl⟩
      rw [bl_self]
      go_wp2_with fail
      go_ret
      exact ⟨rfl, HBR3.out⟩
theorem orders_yn (la lb : List V) (A : Option Addr) (n c : Nat) (A' : Option Addr) (c' : Nat) (w : World) (hla : la.length = n) (hlb : lb.length = n) (hn8 : n ≤ 8) (N N' : Nat) (hN : n ≤ N) (hN' : n ≤ N') (hm : min3 (N : Int) (N' : Int) 8 = (n : Int)) (ha : Sl w w.heap.size 4 A n c (vals la)) (hb : Sl w w.heap.size 4 A' n c' (vals lb)) (hcn : N ≤ c) (hcn' : N' ≤ c') (hoka : ∀ v ∈ la, v.ok) (hokb : ∀ v ∈ lb, v.ok) (hra : la.all V.right = true) (hrb : lb.all V.right = false) (hU : U8 w) :
    Calls Tryd.prog 5 #[.slice A N c, .slice A' N' c'] w fun e w' => e = .returned (.bool true) ∧ Below w.heap.size w w' := by
  have hc := ha.cap
  have hc' := hb.cap
  unfold maxLen at hc hc'
  have hKc : (n : Int) ≤ c := by omega
  have hKc' : (n : Int) ≤ c' := by omega
  have HSA := Lib.hid ha
  have HSB := Lib.hid hb
  have HU := Lib.hid hU
  have HLA := Lib.hid hla
  have HLB := Lib.hid hlb
  have HOA := Lib.hid hoka
  have HOB := Lib.hid hokb
  have HRA := Lib.hid hra
  have HRB := Lib.hid hrb
  clear ha hb hU hla hlb hoka hokb hra hrb
  go_enter Tryd.func5, Tryd.ntmps5
  go_wp2_with fail
  refine (awake_k _ HU.out).mono ?_
  rintro e w1 ⟨rfl, hb1⟩
  have HB1 := Lib.hid hb1
  clear hb1
  go_wp2_with fail
  refine (kbytes_ok la HRA.out A n c _ HLA.out (by omega) (HSA.out.on HB1.out) HOA.out (HU.out.below HB1.out)).mono ?_
  rintro e w2 ⟨A2, c2, rfl, hown2, hb2⟩
  obtain ⟨A2', c2', he, hs⟩ := Sl.of_own hown2
  injection he with e1 e2 e3
  subst e1 e3
  have HP2 := Lib.hid hs
  have HX2 := Lib.hid hb2
  have HB2 := Lib.hid (Cell.bel_trans HB1.out hb2)
  clear hown2 hb2 hs e2
  go_wp2_with fail
  refine (kbytes_no lb HRB.out A' n c' _ HLB.out (by omega) (HSB.out.on HB2.out) HOB.out (HU.out.below HB2.out)).mono ?_
  rintro e w3 ⟨rfl, hb3⟩
  have HB3 := Lib.hid (Cell.bel_trans HB2.out hb3)
  clear hb3
  go_wp2_with fail
  go_ret
  exact ⟨rfl, HB3.out⟩
theorem orders_ny (la lb : List V) (A : Option Addr) (n c : Nat) (A' : Option Addr) (c' : Nat) (w : World) (hla : la.length = n) (hlb : lb.length = n) (hn8 : n ≤ 8) (N N' : Nat) (hN : n ≤ N) (hN' : n ≤ N') (hm : min3 (N : Int) (N' : Int) 8 = (n : Int)) (ha : Sl w w.heap.size 4 A n c (vals la)) (hb : Sl w w.heap.size 4 A' n c' (vals lb)) (hcn : N ≤ c) (hcn' : N' ≤ c') (hoka : ∀ v ∈ la, v.ok) (hokb : ∀ v ∈ lb, v.ok) (hra : la.all V.right = false) (hrb : lb.all V.right = true) (hU : U8 w) :
    Calls Tryd.prog 5 #[.slice A N c, .slice A' N' c'] w fun e w' => e = .returned (.bool true) ∧ Below w.heap.size w w' := by
  have hc := ha.cap
  have hc' := hb.cap
  unfold maxLen at hc hc'
  have hKc : (n : Int) ≤ c := by omega
  have hKc' : (n : Int) ≤ c' := by omega
  have HSA := Lib.hid ha
  have HSB := Lib.hid hb
  have HU := Lib.hid hU
  have HLA := Lib.hid hla
  have HLB := Lib.hid hlb
  have HOA := Lib.hid hoka
  have HOB := Lib.hid hokb
  have HRA := Lib.hid hra
  have HRB := Lib.hid hrb
  clear ha hb hU hla hlb hoka hokb hra hrb
  go_enter Tryd.func5, Tryd.ntmps5
  go_wp2_with fail
  refine (awake_k _ HU.out).mono ?_
  rintro e w1 ⟨rfl, hb1⟩
  have HB1 := Lib.hid hb1
  clear hb1
  go_wp2_with fail
  refine (kbytes_no la HRA.out A n c _ HLA.out (by omega) (HSA.out.on HB1.out) HOA.out (HU.out.below HB1.out)).mono ?_
  rintro e w2 ⟨rfl, hb2⟩
  have HB2 := Lib.hid (Cell.bel_trans HB1.out hb2)
  clear hb2
  go_wp2_with fail
  refine (kbytes_ok lb HRB.out A' n c' _ HLB.out (by omega) (HSB.out.on HB2.out) HOB.out (HU.out.below HB2.out)).mono ?_
  rintro e w3 ⟨A3, c3, rfl, hown3, hb3⟩
  obtain ⟨A3', c3', he, hs⟩ := Sl.of_own hown3
  injection he with e1 e2 e3
  subst e1 e3
  have HP3 := Lib.hid hs
  have HX3 := Lib.hid hb3
  have HB3 := Lib.hid (Cell.bel_trans HB2.out hb3)
  clear hown3 hb3 hs e2
  go_wp2_with fail
  go_ret
  exact ⟨rfl, HB3.out⟩
theorem orders_nn (la lb : List V) (A : Option Addr) (n c : Nat) (A' : Option Addr) (c' : Nat) (w : World) (hla : la.length = n) (hlb : lb.length = n) (hn8 : n ≤ 8) (N N' : Nat) (hN : n ≤ N) (hN' : n ≤ N') (hm : min3 (N : Int) (N' : Int) 8 = (n : Int)) (ha : Sl w w.heap.size 4 A n c (vals la)) (hb : Sl w w.heap.size 4 A' n c' (vals lb)) (hcn : N ≤ c) (hcn' : N' ≤ c') (hoka : ∀ v ∈ la, v.ok) (hokb : ∀ v ∈ lb, v.ok) (hra : la.all V.right = false) (hrb : lb.all V.right = false) (hU : U8 w) :
    Calls Tryd.prog 5 #[.slice A N c, .slice A' N' c'] w fun e w' => e = .returned (.bool true) ∧ Below w.heap.size w w' := by
  have hc := ha.cap
  have hc' := hb.cap
  unfold maxLen at hc hc'
  have hKc : (n : Int) ≤ c := by omega
  have hKc' : (n : Int) ≤ c' := by omega
  have HSA := Lib.hid ha
  have HSB := Lib.hid hb
  have HU := Lib.hid hU
  have HLA := Lib.hid hla
  have HLB := Lib.hid hlb
  have HOA := Lib.hid hoka
  have HOB := Lib.hid hokb
  have HRA := Lib.hid hra
  have HRB := Lib.hid hrb
  clear ha hb hU hla hlb hoka hokb hra hrb
  go_enter Tryd.func5, Tryd.ntmps5
  go_wp2_with fail
  refine (awake_k _ HU.out).mono ?_
  rintro e w1 ⟨rfl, hb1⟩
  have HB1 := Lib.hid hb1
  clear hb1
  go_wp2_with fail
  refine (kbytes_no la HRA.out A n c _ HLA.out (by omega) (HSA.out.on HB1.out) HOA.out (HU.out.below HB1.out)).mono ?_
  rintro e w2 ⟨rfl, hb2⟩
  have HB2 := Lib.hid (Cell.bel_trans HB1.out hb2)
  clear hb2
  go_wp2_with fail
  refine (kbytes_no lb HRB.out A' n c' _ HLB.out (by omega) (HSB.out.on HB2.out) HOB.out (HU.out.below HB2.out)).mono ?_
  rintro e w3 ⟨rfl, hb3⟩
  have HB3 := Lib.hid (Cell.bel_trans HB2.out hb3)
  clear hb3
  go_wp2_with fail
  go_ret
  exact ⟨rfl, HB3.out⟩
theorem orders_walk (w : World) (la : List V) (A : Option Addr) (N c : Nat) (lb : List V) (A' : Option Addr) (N' c' : Nat) (hla : la.length = N) (ha : Sl w w.heap.size 4 A N c (vals la)) (hoka : ∀ v ∈ la, v.ok) (hlb : lb.length = N') (hb : Sl w w.heap.size 4 A' N' c' (vals lb)) (hokb : ∀ v ∈ lb, v.ok) (hU : U8 w) :
    Calls Tryd.prog 5 #[.slice A N c, .slice A' N' c'] w fun e w' => e = .returned (.bool true) ∧ Below w.heap.size w w' := by
  obtain ⟨n, hn⟩ : ∃ n, min (min N N') 8 = n := ⟨_, rfl⟩
  have hm3 : min3 (N : Int) (N' : Int) 8 = (n : Int) := by
    unfold min3
    rw [← hn]
    split <;> split <;> omega
  have ha' := ha.take (k := n) (by omega)
  have hb' := hb.take (k := n) (by omega)
  rw [vals_take] at ha' hb'
  have l1 : (la.take n).length = n := by rw [List.length_take, hla]; omega
  have l2 : (lb.take n).length = n := by rw [List.length_take, hlb]; omega
  cases hra : (la.take n).all V.right <;> cases hrb : (lb.take n).all V.right
  · exact orders_nn _ _ A _ c A' c' w l1 l2 (by omega) N N' (by omega) (by omega) hm3 ha' hb' ha.le hb.le (all_take hoka) (all_take hokb) hra hrb hU
  · exact orders_ny _ _ A _ c A' c' w l1 l2 (by omega) N N' (by omega) (by omega) hm3 ha' hb' ha.le hb.le (all_take hoka) (all_take hokb) hra hrb hU
  · exact orders_yn _ _ A _ c A' c' w l1 l2 (by omega) N N' (by omega) (by omega) hm3 ha' hb' ha.le hb.le (all_take hoka) (all_take hokb) hra hrb hU
  · exact orders_yy _ _ A _ c A' c' w l1 l2 (by omega) N N' (by omega) (by omega) hm3 ha' hb' ha.le hb.le (all_take hoka) (all_take hokb) hra hrb hU
end Go.Proofs.YtfabcnbblhadnaaDoor.Mem
