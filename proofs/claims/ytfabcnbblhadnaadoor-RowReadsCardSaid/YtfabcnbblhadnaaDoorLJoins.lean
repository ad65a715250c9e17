/- KeyJoins: its walk. -/
import Derived.Test.YtfabcnbblhadnaaDoorAwakeK
namespace Go.Proofs.YtfabcnbblhadnaaDoor.Mem
open Go.RowKit Go.Proofs.YtfabcnbblhadnaaDoor.Nums
open Go.Proofs.YtfabcnbblhadnaaDoor.Cell (U8)
set_option linter.unusedVariables false
set_option linter.unusedSimpArgs false
set_option maxRecDepth 100000
theorem min_nat (n k : Nat) : ∃ K : Nat, K ≤ n ∧ K ≤ k ∧ min (n : Int) (k : Int) = (K : Int) ∧ min n k = K := ⟨min n k, by omega, by omega, by omega, rfl⟩
theorem vals_take (l : List V) (k : Nat) : (vals l).take (k * 4) = vals (l.take k) := by
  induction l generalizing k with
  | nil => simp [vals]
  | cons v l ih =>
    cases k with
    | zero => simp [vals]
    | succ k =>
      show ((V.cells v) ++ vals l).take ((k + 1) * 4) = (V.cells v) ++ vals (l.take k)
      rw [← ih k, List.take_append, List.take_of_length_le (by show 4 ≤ _; omega)]
      congr 2
      show (k + 1) * 4 - 4 = _
      omega
theorem own_emptyV (w : World) : OwnV (w.alloc (.cells #[] 43)) w.heap.size (.slice (some ⟨w.heap.size, 0, none⟩) 0 0) 0 [] := World.ownsRow_lit w #[] 0 (Nat.le_refl _) (by unfold maxLen; omega) rfl
theorem vals_one (l : List V) : ∀ u ∈ vals l, u.oneCell' = true := by
  intro u hu
  simp only [vals, List.mem_flatMap] at hu
  obtain ⟨v, _, hv⟩ := hu
  simp [V.cells] at hv
  rcases hv with rfl | rfl | rfl | rfl <;> rfl
theorem Sl.onN {w w' : World} {sz n c : Nat} {A : Option Addr} {xs : List Value} (h : Sl w w.heap.size sz A n c xs) (hb : Below w.heap.size w w') : Sl w' w'.heap.size sz A n c xs := h.on hb
theorem bel_drewN {a w : World} (h : Below a.heap.size a w) (n : Nat) : Below a.heap.size a (w.drewN n) := ⟨h.os, h.tape, h.output, h.size, h.block⟩
theorem wpl_app_b_g {w : World} {ops : Array Oper} {rest : List Oper} {o : Oper} {a : Act} {Q : Exit → Act → World → Prop} (hw : Region.wanted o (yielded ops a.tmps) = true) (s x : Operand)
    (ho : o.op = .call { callee := .builtin .append, args := #[s, x], argTypes := #[24, 24] })
    (base : Nat) (v : Value) (n : Nat) (xs : List Value) (hs : a.eval s = v) (hown : OwnB w base v n xs)
    (B : Nat) (y : Value) (m : Nat) (news : List Value) (hy : a.eval x = y) (hx : Lies w B 1 y m news) (h1 : ∀ u ∈ news, u.oneCell' = true)
    (hbytes : n + m ≤ 140737488355328) (hbase : base ≤ w.heap.size)
    (h : ∀ v' w', OwnB w' base v' (n + m) (xs ++ news) → Kin w w' v v' → wpList Tryd.prog ops Q rest (a.put o.dst v') w') : wpList Tryd.prog ops Q (o :: rest) a w := by
  simp only [wpList, hw]
  rw [if_pos trivial]
  exact .inl (wp_app_b s x ho base v n xs hs hown B y m news hy hx h1 hbytes hbase h)
theorem own_apart {w w' : World} {B' : Nat} {v v1 v' : Value} {m : Nat} {ys : List Value} (h : OwnB w B' v' m ys) (hk : Kin w w' v v1) (hv : ∀ k, v.ownBlock = some k → k < B') : OwnB w' B' v' m ys :=
  World.ownsRow.kept h hk.1 (by
    cases e : v'.ownBlock with
    | none => exact .inl rfl
    | some g =>
      refine .inr fun e2 => ?_
      have h1 := hv g e2.symm
      have h2 := (World.ownsRow.lt h g e).1
      omega)
theorem joins_yy (la lb : List V) (A : Option Addr) (n c : Nat) (A' : Option Addr) (n' c' : Nat) (w : World) (hla : la.length = n) (hlb : lb.length = n') (hn6 : n ≤ 6) (hn6' : n' ≤ 6) (N N' : Nat) (hN : n ≤ N) (hN' : n' ≤ N') (hm1 : min (N : Int) 6 = (n : Int)) (hm2 : min (N' : Int) 6 = (n' : Int)) (ha : Sl w w.heap.size 4 A n c (vals la)) (hb : Sl w w.heap.size 4 A' n' c' (vals lb)) (hcn : N ≤ c) (hcn' : N' ≤ c') (hoka : ∀ v ∈ la, v.ok) (hokb : ∀ v ∈ lb, v.ok) (hra : la.all V.right = true) (hrb : lb.all V.right = true) (hU : U8 w) :
    Calls Tryd.prog 7 #[.slice A N c, .slice A' N' c'] w fun e w' => e = .returned (.bool true) ∧ Below w.heap.size w w' := by
  have hc := ha.cap
  have hc' := hb.cap
  unfold maxLen at hc hc'
  have hKc : (n : Int) ≤ c := by omega
  have hKc' : (n' : Int) ≤ c' := by omega
  have HSA := Lib.hid ha
  have HSB := Lib.hid hb
  have HU := Lib.hid hU
  have HLA := Lib.hid hla
  have HLB := Lib.hid hlb
  have HOA := Lib.hid hoka
  have HOB := Lib.hid hokb
  have HRA := Lib.hid hra
  have HRB := Lib.hid hrb
  clear ha hb hU hla hlb hoka hokb hra hrb
  go_enter Tryd.func7, Tryd.ntmps7
  go_wp2_with fail
  refine (awake_k _ HU.out).mono ?_
  rintro e w1 ⟨rfl, hb1⟩
  have HB1 := Lib.hid hb1
  clear hb1
  go_wp2_with fail
  go_quiet (fail)
  go_wp2_with fail
  obtain ⟨w2, hw2⟩ : ∃ w2, w1.drewN nq = w2 := ⟨_, rfl⟩
  have HB2 : Hid (Below w.heap.size w w2) := Lib.hid (by rw [← hw2]; exact bel_drewN HB1.out nq)
  rw [hw2]
  clear hw2 HB1 hm1 hm2
  refine (kbytes_ok la HRA.out A n c _ HLA.out (by omega) (HSA.out.on HB2.out) HOA.out (HU.out.below HB2.out)).mono ?_
  rintro e w3 ⟨A3, c3, rfl, hown3, hb3⟩
  have HO3 := Lib.hid hown3
  have hl3 := rowBytes_le _ HRA.out
  rw [HLA.out] at hl3
  clear hown3
  have HB3 := Lib.hid (Cell.bel_trans HB2.out hb3)
  have HS23 := Lib.hid hb3
  clear hb3
  go_wp2_with fail
  refine (kbytes_ok lb HRB.out A' n' c' _ HLB.out (by omega) (HSB.out.on HB3.out) HOB.out (HU.out.below HB3.out)).mono ?_
  rintro e w4 ⟨A4, c4, rfl, hown4, hb4⟩
  have HO4 := Lib.hid hown4
  have hl4 := rowBytes_le _ HRB.out
  rw [HLB.out] at hl4
  clear hown4
  have HB4 := Lib.hid (Cell.bel_trans HB3.out hb4)
  have HO3' := Lib.hid (own_kept HO3.out hb4)
  have hB34 : w3.heap.size ≤ w4.heap.size := hb4.size
  have hB23 := HS23.out.size
  clear hb4
  go_wp2_with (first | (at_builtin; refine wpl_app_v rfl (.tmp 34) (.tmp 35) rfl w4.heap.size _ 0 [] rfl (own_emptyV w4) _ _ n _ rfl ((HSA.out.on HB4.out).below (Cell.bel_alloc _ _)).lies (vals_one _) (by omega) (by rw [size_alloc]; omega) ?_; intro v5 w5 hown5 hgrow5; have hb5 := bel_app hgrow5) | (at_builtin; refine wpl_app_v rfl (.tmp 36) (.tmp 37) rfl w4.heap.size v5 _ _ rfl hown5 _ _ n' _ rfl ((HSB.out.on HB4.out).on hb5).lies (vals_one _) (by omega) hb5.size ?_; intro v6 w6 hown6 hgrow6))
  have HB6 : Hid (Below w4.heap.size w4 w6) := Lib.hid (hb5.trans (hgrow6.below hb5.size fun k hk => (World.ownsRow.lt hown5 k hk).1))
  obtain ⟨A6, c6, hv6, hs6⟩ := Sl.of_own hown6
  subst hv6
  have HS6 : Hid (Sl w6 w6.heap.size 4 A6 (n + n') c6 (vals (la ++ lb))) := Lib.hid (by have h := hs6; rw [vals_app]; simpa using h)
  have hlab : (la ++ lb).length = n + n' := by rw [List.length_append, HLA.out, HLB.out]
  have HLAB := Lib.hid hlab
  have HOAB : Hid (∀ v ∈ la ++ lb, v.ok) := Lib.hid (by intro v hv; rcases List.mem_append.1 hv with h | h; exact HOA.out v h; exact HOB.out v h)
  have HU6 := Lib.hid ((HU.out.below HB4.out).below HB6.out)
  clear hs6 hown5 hown6 hgrow5 hgrow6 hb5 hlab
  simp only [Nat.zero_add]
  have HRAB : Hid ((la ++ lb).all V.right = true) := Lib.hid (by rw [List.all_append, HRA.out, HRB.out]; rfl)
  refine (kbytes_ok (la ++ lb) HRAB.out A6 (n + n') c6 _ HLAB.out (by omega) HS6.out HOAB.out HU6.out).mono ?_
  rintro e w7 ⟨A7, c7, rfl, hown7, hb7⟩
  have hb67 := Cell.bel_trans HB6.out hb7
  obtain ⟨A7', c7', he, hs7⟩ := Sl.of_own hown7
  injection he with e1 e2 e3
  subst e1 e3
  have HO7 := Lib.hid hown7
  have HO37 := Lib.hid (own_kept HO3'.out hb67)
  obtain ⟨A4', c4', he, hs4⟩ := Sl.of_own HO4.out
  injection he with e1 e4 e3
  subst e1 e3
  have HS4 := Lib.hid (hs4.on hb67)
  have HB7 := Lib.hid hb67
  have hsz7 := hb67.size
  have hl34 : (rowBytes (la ++ lb)).length = (rowBytes la).length + (rowBytes lb).length := by rw [rowBytes_app, List.length_append]
  have HL34 := Lib.hid hl34
  clear hown7 hs7 hs4 hb67 hb7 e2 e4 hl34
  go_wp2_with (at_builtin; go_loud (refine wpl_app_b_g rfl (.tmp 59) (.tmp 60) rfl w2.heap.size _ (rowBytes la).length _ rfl HO37.out _ _ (rowBytes lb).length _ rfl HS4.out.lies (u8s_one _) (by omega) (by omega) ?_; intro v8 w8 hown8 hgrow8))
  obtain ⟨A8, c8, hv8, hs8⟩ := Sl.of_own hown8
  subst hv8
  have hkin : Below w.heap.size w7 w8 := hgrow8.below (Nat.le_trans HB2.out.size (by omega)) fun k hk => Nat.le_trans HB2.out.size (World.ownsRow.lt HO37.out k hk).1
  have HS7' : Hid (Sl w8 w8.heap.size 1 A7 (rowBytes (la ++ lb)).length c7 (u8s (rowBytes (la ++ lb)))) := Lib.hid (by
    have h := own_apart HO7.out hgrow8 (fun k hk => by have := (World.ownsRow.lt HO3.out k hk).2; have := HB6.out.size; omega)
    obtain ⟨A9, c9, hv9, hs9⟩ := Sl.of_own h
    injection hv9 with e1 e2 e3
    subst e1 e3
    exact hs9)
  have HS8 : Hid (Sl w8 w8.heap.size 1 A8 ((rowBytes la).length + (rowBytes lb).length) c8 (u8s (rowBytes (la ++ lb)))) := Lib.hid (by rw [rowBytes_app, u8s_app]; exact hs8)
  have HK := Lib.hid hkin
  clear hkin hs8 hown8 hgrow8
  refine (same_any (rowBytes (la ++ lb)) (rowBytes (la ++ lb)) A7 _ c7 A8 _ c8 _ HS7'.out HS8.out).mono ?_
  rintro e w9 ⟨rfl, rfl⟩
  simp only [decide_true]
  go_wp2_with fail
  go_ret
  exact ⟨rfl, (HB4.out.trans (HB7.out.mono HB4.out.size)).trans HK.out⟩
theorem joins_yn (la lb : List V) (A : Option Addr) (n c : Nat) (A' : Option Addr) (n' c' : Nat) (w : World) (hla : la.length = n) (hlb : lb.length = n') (hn6 : n ≤ 6) (hn6' : n' ≤ 6) (N N' : Nat) (hN : n ≤ N) (hN' : n' ≤ N') (hm1 : min (N : Int) 6 = (n : Int)) (hm2 : min (N' : Int) 6 = (n' : Int)) (ha : Sl w w.heap.size 4 A n c (vals la)) (hb : Sl w w.heap.size 4 A' n' c' (vals lb)) (hcn : N ≤ c) (hcn' : N' ≤ c') (hoka : ∀ v ∈ la, v.ok) (hokb : ∀ v ∈ lb, v.ok) (hra : la.all V.right = true) (hrb : lb.all V.right = false) (hU : U8 w) :
    Calls Tryd.prog 7 #[.slice A N c, .slice A' N' c'] w fun e w' => e = .returned (.bool true) ∧ Below w.heap.size w w' := by
  have hc := ha.cap
  have hc' := hb.cap
  unfold maxLen at hc hc'
  have hKc : (n : Int) ≤ c := by omega
  have hKc' : (n' : Int) ≤ c' := by omega
  have HSA := Lib.hid ha
  have HSB := Lib.hid hb
  have HU := Lib.hid hU
  have HLA := Lib.hid hla
  have HLB := Lib.hid hlb
  have HOA := Lib.hid hoka
  have HOB := Lib.hid hokb
  have HRA := Lib.hid hra
  have HRB := Lib.hid hrb
  clear ha hb hU hla hlb hoka hokb hra hrb
  go_enter Tryd.func7, Tryd.ntmps7
  go_wp2_with fail
  refine (awake_k _ HU.out).mono ?_
  rintro e w1 ⟨rfl, hb1⟩
  have HB1 := Lib.hid hb1
  clear hb1
  go_wp2_with fail
  go_quiet (fail)
  go_wp2_with fail
  obtain ⟨w2, hw2⟩ : ∃ w2, w1.drewN nq = w2 := ⟨_, rfl⟩
  have HB2 : Hid (Below w.heap.size w w2) := Lib.hid (by rw [← hw2]; exact bel_drewN HB1.out nq)
  rw [hw2]
  clear hw2 HB1 hm1 hm2
  refine (kbytes_ok la HRA.out A n c _ HLA.out (by omega) (HSA.out.on HB2.out) HOA.out (HU.out.below HB2.out)).mono ?_
  rintro e w3 ⟨A3, c3, rfl, hown3, hb3⟩
  have HO3 := Lib.hid hown3
  have hl3 := rowBytes_le _ HRA.out
  rw [HLA.out] at hl3
  clear hown3
  have HB3 := Lib.hid (Cell.bel_trans HB2.out hb3)
  have HS23 := Lib.hid hb3
  clear hb3
  go_wp2_with fail
  refine (kbytes_no lb HRB.out A' n' c' _ HLB.out (by omega) (HSB.out.on HB3.out) HOB.out (HU.out.below HB3.out)).mono ?_
  rintro e w4 ⟨rfl, hb4⟩
  have HB4 := Lib.hid (Cell.bel_trans HB3.out hb4)
  have HO3' := Lib.hid (own_kept HO3.out hb4)
  have hB34 : w3.heap.size ≤ w4.heap.size := hb4.size
  have hB23 := HS23.out.size
  clear hb4
  go_wp2_with (first | (at_builtin; refine wpl_app_v rfl (.tmp 34) (.tmp 35) rfl w4.heap.size _ 0 [] rfl (own_emptyV w4) _ _ n _ rfl ((HSA.out.on HB4.out).below (Cell.bel_alloc _ _)).lies (vals_one _) (by omega) (by rw [size_alloc]; omega) ?_; intro v5 w5 hown5 hgrow5; have hb5 := bel_app hgrow5) | (at_builtin; refine wpl_app_v rfl (.tmp 36) (.tmp 37) rfl w4.heap.size v5 _ _ rfl hown5 _ _ n' _ rfl ((HSB.out.on HB4.out).on hb5).lies (vals_one _) (by omega) hb5.size ?_; intro v6 w6 hown6 hgrow6))
  have HB6 : Hid (Below w4.heap.size w4 w6) := Lib.hid (hb5.trans (hgrow6.below hb5.size fun k hk => (World.ownsRow.lt hown5 k hk).1))
  obtain ⟨A6, c6, hv6, hs6⟩ := Sl.of_own hown6
  subst hv6
  have HS6 : Hid (Sl w6 w6.heap.size 4 A6 (n + n') c6 (vals (la ++ lb))) := Lib.hid (by have h := hs6; rw [vals_app]; simpa using h)
  have hlab : (la ++ lb).length = n + n' := by rw [List.length_append, HLA.out, HLB.out]
  have HLAB := Lib.hid hlab
  have HOAB : Hid (∀ v ∈ la ++ lb, v.ok) := Lib.hid (by intro v hv; rcases List.mem_append.1 hv with h | h; exact HOA.out v h; exact HOB.out v h)
  have HU6 := Lib.hid ((HU.out.below HB4.out).below HB6.out)
  clear hs6 hown5 hown6 hgrow5 hgrow6 hb5 hlab
  simp only [Nat.zero_add]
  have HRAB : Hid ((la ++ lb).all V.right = false) := Lib.hid (by rw [List.all_append, HRA.out, HRB.out]; rfl)
  refine (kbytes_no (la ++ lb) HRAB.out A6 (n + n') c6 _ HLAB.out (by omega) HS6.out HOAB.out HU6.out).mono ?_
  rintro e w7 ⟨rfl, hb7⟩
  have HB7 := Lib.hid (Cell.bel_trans HB4.out (Cell.bel_trans HB6.out hb7))
  clear hb7
  go_wp2_with fail
  go_ret
  exact ⟨rfl, HB7.out⟩
theorem joins_ny (la lb : List V) (A : Option Addr) (n c : Nat) (A' : Option Addr) (n' c' : Nat) (w : World) (hla : la.length = n) (hlb : lb.length = n') (hn6 : n ≤ 6) (hn6' : n' ≤ 6) (N N' : Nat) (hN : n ≤ N) (hN' : n' ≤ N') (hm1 : min (N : Int) 6 = (n : Int)) (hm2 : min (N' : Int) 6 = (n' : Int)) (ha : Sl w w.heap.size 4 A n c (vals la)) (hb : Sl w w.heap.size 4 A' n' c' (vals lb)) (hcn : N ≤ c) (hcn' : N' ≤ c') (hoka : ∀ v ∈ la, v.ok) (hokb : ∀ v ∈ lb, v.ok) (hra : la.all V.right = false) (hrb : lb.all V.right = true) (hU : U8 w) :
    Calls Tryd.prog 7 #[.slice A N c, .slice A' N' c'] w fun e w' => e = .returned (.bool true) ∧ Below w.heap.size w w' := by
  have hc := ha.cap
  have hc' := hb.cap
  unfold maxLen at hc hc'
  have hKc : (n : Int) ≤ c := by omega
  have hKc' : (n' : Int) ≤ c' := by omega
  have HSA := Lib.hid ha
  have HSB := Lib.hid hb
  have HU := Lib.hid hU
  have HLA := Lib.hid hla
  have HLB := Lib.hid hlb
  have HOA := Lib.hid hoka
  have HOB := Lib.hid hokb
  have HRA := Lib.hid hra
  have HRB := Lib.hid hrb
  clear ha hb hU hla hlb hoka hokb hra hrb
  go_enter Tryd.func7, Tryd.ntmps7
  go_wp2_with fail
  refine (awake_k _ HU.out).mono ?_
  rintro e w1 ⟨rfl, hb1⟩
  have HB1 := Lib.hid hb1
  clear hb1
  go_wp2_with fail
  go_quiet (fail)
  go_wp2_with fail
  obtain ⟨w2, hw2⟩ : ∃ w2, w1.drewN nq = w2 := ⟨_, rfl⟩
  have HB2 : Hid (Below w.heap.size w w2) := Lib.hid (by rw [← hw2]; exact bel_drewN HB1.out nq)
  rw [hw2]
  clear hw2 HB1 hm1 hm2
  refine (kbytes_no la HRA.out A n c _ HLA.out (by omega) (HSA.out.on HB2.out) HOA.out (HU.out.below HB2.out)).mono ?_
  rintro e w3 ⟨rfl, hb3⟩
  have HB3 := Lib.hid (Cell.bel_trans HB2.out hb3)
  have HS23 := Lib.hid hb3
  clear hb3
  go_wp2_with fail
  refine (kbytes_ok lb HRB.out A' n' c' _ HLB.out (by omega) (HSB.out.on HB3.out) HOB.out (HU.out.below HB3.out)).mono ?_
  rintro e w4 ⟨A4, c4, rfl, hown4, hb4⟩
  have HO4 := Lib.hid hown4
  have hl4 := rowBytes_le _ HRB.out
  rw [HLB.out] at hl4
  clear hown4
  have HB4 := Lib.hid (Cell.bel_trans HB3.out hb4)
  clear hb4
  go_wp2_with (first | (at_builtin; refine wpl_app_v rfl (.tmp 34) (.tmp 35) rfl w4.heap.size _ 0 [] rfl (own_emptyV w4) _ _ n _ rfl ((HSA.out.on HB4.out).below (Cell.bel_alloc _ _)).lies (vals_one _) (by omega) (by rw [size_alloc]; omega) ?_; intro v5 w5 hown5 hgrow5; have hb5 := bel_app hgrow5) | (at_builtin; refine wpl_app_v rfl (.tmp 36) (.tmp 37) rfl w4.heap.size v5 _ _ rfl hown5 _ _ n' _ rfl ((HSB.out.on HB4.out).on hb5).lies (vals_one _) (by omega) hb5.size ?_; intro v6 w6 hown6 hgrow6))
  have HB6 : Hid (Below w4.heap.size w4 w6) := Lib.hid (hb5.trans (hgrow6.below hb5.size fun k hk => (World.ownsRow.lt hown5 k hk).1))
  obtain ⟨A6, c6, hv6, hs6⟩ := Sl.of_own hown6
  subst hv6
  have HS6 : Hid (Sl w6 w6.heap.size 4 A6 (n + n') c6 (vals (la ++ lb))) := Lib.hid (by have h := hs6; rw [vals_app]; simpa using h)
  have hlab : (la ++ lb).length = n + n' := by rw [List.length_append, HLA.out, HLB.out]
  have HLAB := Lib.hid hlab
  have HOAB : Hid (∀ v ∈ la ++ lb, v.ok) := Lib.hid (by intro v hv; rcases List.mem_append.1 hv with h | h; exact HOA.out v h; exact HOB.out v h)
  have HU6 := Lib.hid ((HU.out.below HB4.out).below HB6.out)
  clear hs6 hown5 hown6 hgrow5 hgrow6 hb5 hlab
  simp only [Nat.zero_add]
  have HRAB : Hid ((la ++ lb).all V.right = false) := Lib.hid (by rw [List.all_append, HRA.out, HRB.out]; rfl)
  refine (kbytes_no (la ++ lb) HRAB.out A6 (n + n') c6 _ HLAB.out (by omega) HS6.out HOAB.out HU6.out).mono ?_
  rintro e w7 ⟨rfl, hb7⟩
  have HB7 := Lib.hid (Cell.bel_trans HB4.out (Cell.bel_trans HB6.out hb7))
  clear hb7
  go_wp2_with fail
  go_ret
  exact ⟨rfl, HB7.out⟩
theorem joins_nn (la lb : List V) (A : Option Addr) (n c : Nat) (A' : Option Addr) (n' c' : Nat) (w : World) (hla : la.length = n) (hlb : lb.length = n') (hn6 : n ≤ 6) (hn6' : n' ≤ 6) (N N' : Nat) (hN : n ≤ N) (hN' : n' ≤ N') (hm1 : min (N : Int) 6 = (n : Int)) (hm2 : min (N' : Int) 6 = (n' : Int)) (ha : Sl w w.heap.size 4 A n c (vals la)) (hb : Sl w w.heap.size 4 A' n' c' (vals lb)) (hcn : N ≤ c) (hcn' : N' ≤ c') (hoka : ∀ v ∈ la, v.ok) (hokb : ∀ v ∈ lb, v.ok) (hra : la.all V.right = false) (hrb : lb.all V.right = false) (hU : U8 w) :
    Calls Tryd.prog 7 #[.slice A N c, .slice A' N' c'] w fun e w' => e = .returned (.bool true) ∧ Below w.heap.size w w' := by
  have hc := ha.cap
  have hc' := hb.cap
  unfold maxLen at hc hc'
  have hKc : (n : Int) ≤ c := by omega
  have hKc' : (n' : Int) ≤ c' := by omega
  have HSA := Lib.hid ha
  have HSB := Lib.hid hb
  have HU := Lib.hid hU
  have HLA := Lib.hid hla
  have HLB := Lib.hid hlb
  have HOA := Lib.hid hoka
  have HOB := Lib.hid hokb
  have HRA := Lib.hid hra
  have HRB := Lib.hid hrb
  clear ha hb hU hla hlb hoka hokb hra hrb
  go_enter Tryd.func7, Tryd.ntmps7
  go_wp2_with fail
  refine (awake_k _ HU.out).mono ?_
  rintro e w1 ⟨rfl, hb1⟩
  have HB1 := Lib.hid hb1
  clear hb1
  go_wp2_with fail
  go_quiet (fail)
  go_wp2_with fail
  obtain ⟨w2, hw2⟩ : ∃ w2, w1.drewN nq = w2 := ⟨_, rfl⟩
  have HB2 : Hid (Below w.heap.size w w2) := Lib.hid (by rw [← hw2]; exact bel_drewN HB1.out nq)
  rw [hw2]
  clear hw2 HB1 hm1 hm2
  refine (kbytes_no la HRA.out A n c _ HLA.out (by omega) (HSA.out.on HB2.out) HOA.out (HU.out.below HB2.out)).mono ?_
  rintro e w3 ⟨rfl, hb3⟩
  have HB3 := Lib.hid (Cell.bel_trans HB2.out hb3)
  have HS23 := Lib.hid hb3
  clear hb3
  go_wp2_with fail
  refine (kbytes_no lb HRB.out A' n' c' _ HLB.out (by omega) (HSB.out.on HB3.out) HOB.out (HU.out.below HB3.out)).mono ?_
  rintro e w4 ⟨rfl, hb4⟩
  have HB4 := Lib.hid (Cell.bel_trans HB3.out hb4)
  clear hb4
  go_wp2_with (first | (at_builtin; refine wpl_app_v rfl (.tmp 34) (.tmp 35) rfl w4.heap.size _ 0 [] rfl (own_emptyV w4) _ _ n _ rfl ((HSA.out.on HB4.out).below (Cell.bel_alloc _ _)).lies (vals_one _) (by omega) (by rw [size_alloc]; omega) ?_; intro v5 w5 hown5 hgrow5; have hb5 := bel_app hgrow5) | (at_builtin; refine wpl_app_v rfl (.tmp 36) (.tmp 37) rfl w4.heap.size v5 _ _ rfl hown5 _ _ n' _ rfl ((HSB.out.on HB4.out).on hb5).lies (vals_one _) (by omega) hb5.size ?_; intro v6 w6 hown6 hgrow6))
  have HB6 : Hid (Below w4.heap.size w4 w6) := Lib.hid (hb5.trans (hgrow6.below hb5.size fun k hk => (World.ownsRow.lt hown5 k hk).1))
  obtain ⟨A6, c6, hv6, hs6⟩ := Sl.of_own hown6
  subst hv6
  have HS6 : Hid (Sl w6 w6.heap.size 4 A6 (n + n') c6 (vals (la ++ lb))) := Lib.hid (by have h := hs6; rw [vals_app]; simpa using h)
  have hlab : (la ++ lb).length = n + n' := by rw [List.length_append, HLA.out, HLB.out]
  have HLAB := Lib.hid hlab
  have HOAB : Hid (∀ v ∈ la ++ lb, v.ok) := Lib.hid (by intro v hv; rcases List.mem_append.1 hv with h | h; exact HOA.out v h; exact HOB.out v h)
  have HU6 := Lib.hid ((HU.out.below HB4.out).below HB6.out)
  clear hs6 hown5 hown6 hgrow5 hgrow6 hb5 hlab
  simp only [Nat.zero_add]
  have HRAB : Hid ((la ++ lb).all V.right = false) := Lib.hid (by rw [List.all_append, HRA.out, HRB.out]; rfl)
  refine (kbytes_no (la ++ lb) HRAB.out A6 (n + n') c6 _ HLAB.out (by omega) HS6.out HOAB.out HU6.out).mono ?_
  rintro e w7 ⟨rfl, hb7⟩
  have HB7 := Lib.hid (Cell.bel_trans HB4.out (Cell.bel_trans HB6.out hb7))
  clear hb7
  go_wp2_with fail
  go_ret
  exact ⟨rfl, HB7.out⟩
theorem all_take {l : List V} {k : Nat} (h : ∀ v ∈ l, v.ok) : ∀ v ∈ l.take k, v.ok := fun v hv => h v (List.mem_of_mem_take hv)
theorem joins_walk (w : World) (la : List V) (A : Option Addr) (N c : Nat) (lb : List V) (A' : Option Addr) (N' c' : Nat) (hla : la.length = N) (ha : Sl w w.heap.size 4 A N c (vals la)) (hoka : ∀ v ∈ la, v.ok) (hlb : lb.length = N') (hb : Sl w w.heap.size 4 A' N' c' (vals lb)) (hokb : ∀ v ∈ lb, v.ok) (hU : U8 w) :
    Calls Tryd.prog 7 #[.slice A N c, .slice A' N' c'] w fun e w' => e = .returned (.bool true) ∧ Below w.heap.size w w' := by
  have ha' := ha.take (k := min N 6) (by omega)
  have hb' := hb.take (k := min N' 6) (by omega)
  rw [vals_take] at ha' hb'
  have l1 : (la.take (min N 6)).length = min N 6 := by rw [List.length_take, hla]; omega
  have l2 : (lb.take (min N' 6)).length = min N' 6 := by rw [List.length_take, hlb]; omega
  cases hra : (la.take (min N 6)).all V.right <;> cases hrb : (lb.take (min N' 6)).all V.right
  · exact joins_nn _ _ A _ c A' _ c' w l1 l2 (by omega) (by omega) N N' (by omega) (by omega) (by omega) (by omega) ha' hb' ha.le hb.le (all_take hoka) (all_take hokb) hra hrb hU
  · exact joins_ny _ _ A _ c A' _ c' w l1 l2 (by omega) (by omega) N N' (by omega) (by omega) (by omega) (by omega) ha' hb' ha.le hb.le (all_take hoka) (all_take hokb) hra hrb hU
  · exact joins_yn _ _ A _ c A' _ c' w l1 l2 (by omega) (by omega) N N' (by omega) (by omega) (by omega) (by omega) ha' hb' ha.le hb.le (all_take hoka) (all_take hokb) hra hrb hU
  · exact joins_yy _ _ A _ c A' _ c' w l1 l2 (by omega) (by omega) N N' (by omega) (by omega) (by omega) (by omega) ha' hb' ha.le hb.le (all_take hoka) (all_take hokb) hra hrb hU
end Go.Proofs.YtfabcnbblhadnaaDoor.Mem
