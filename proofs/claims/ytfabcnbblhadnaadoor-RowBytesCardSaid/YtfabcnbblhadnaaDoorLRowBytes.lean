/- RowBytes: its walk. -/
import Derived.Test.YtfabcnbblhadnaaDoorRefD
import Derived.Test.YtfabcnbblhadnaaDoorRowM
import Derived.Test.YtfabcnbblhadnaaDoorLBytes
namespace Go.Proofs.YtfabcnbblhadnaaDoor.Mem
open Go.RowKit Go.Proofs.YtfabcnbblhadnaaDoor.Nums
open Go.Proofs.YtfabcnbblhadnaaDoor.Cell (U8)
set_option linter.unusedVariables false
set_option linter.unusedSimpArgs false
set_option maxRecDepth 100000
theorem refb4_ok (ks : List UInt8) (l : List V) (hf : fitsE ks l = 0) (A : Option Addr) (n c : Nat) (A' : Option Addr) (n' c' : Nat) (w : World) (hn : ks.length = n) (hl : l.length = n') (hk : Sl w w.heap.size 1 A n c (u8s ks)) (hx : Sl w w.heap.size 4 A' n' c' (vals l)) (hok : ∀ v ∈ l, v.ok) :
    Calls Tryd.prog 34 #[.slice A n c, .slice A' n' c'] w (RToldOk l w) :=
  (refbytes4_any ks l A n c A' n' c' w hn hl hk hx hok).mono fun e w' ⟨hb, h⟩ => by
    rcases h with ⟨_, p, he, ho⟩ | ⟨hne, _⟩
    · obtain ⟨A2, c2, hp, hs⟩ := Sl.of_own ho
      subst hp
      exact ⟨A2, c2, he, ho, hs, hb⟩
    · exact absurd hf hne
theorem refb4_no (ks : List UInt8) (l : List V) (F : Int) (hF : fitsE ks l = F) (hf : F ≠ 0) (A : Option Addr) (n c : Nat) (A' : Option Addr) (n' c' : Nat) (w : World) (hn : ks.length = n) (hl : l.length = n') (hk : Sl w w.heap.size 1 A n c (u8s ks)) (hx : Sl w w.heap.size 4 A' n' c' (vals l)) (hok : ∀ v ∈ l, v.ok) :
    Calls Tryd.prog 34 #[.slice A n c, .slice A' n' c'] w fun e w' => e = .returned (.tuple #[.slice none 0 0, .int .i64 F]) ∧ Below w.heap.size w w' :=
  (refbytes4_any ks l A n c A' n' c' w hn hl hk hx hok).mono fun e w' ⟨hb, h⟩ => by
    rcases h with ⟨h0, _⟩ | ⟨_, he⟩
    · exact absurd (hF.symm.trans h0) hf
    · rw [hF] at he; exact ⟨he, hb⟩
theorem rread_nilrow (ks : List UInt8) (A : Option Addr) (n c : Nat) (w : World) (hn : ks.length = n) (hk : Sl w w.heap.size 1 A n c (u8s ks)) (hU : U8 w) :
    Calls Tryd.prog 36 #[.slice A n c, .slice none 0 0] w fun e w' => ∃ E : Int, e = .returned (.tuple #[.slice none 0 0, .int .i64 E]) ∧ Below w.heap.size w w' := by
  refine (rread_any ks [] A n c none 0 0 w hn rfl hk (sl_nil _ _ _) hU).mono ?_
  rintro e w' ⟨hb, h⟩
  rcases h with ⟨h, _⟩ | ⟨_, _, h⟩
  · exfalso
    unfold rRow at h
    split at h
    · exact absurd (show (3 : Int) = 0 from h) (by decide)
    · exact absurd (show (1 : Int) = 0 from h) (by decide)
  · exact ⟨_, h, hb⟩
theorem rread_back (ks : List UInt8) (l : List V) (hf : fitsE ks l = 0) (A : Option Addr) (n c : Nat) (A' : Option Addr) (n' c' : Nat) (w : World) (hn : ks.length = n) (hm : (rowL l).length = n') (hk : Sl w w.heap.size 1 A n c (u8s ks)) (hx : Sl w w.heap.size 1 A' n' c' (u8s (rowL l))) (hok : ∀ v ∈ l, v.ok) (hU : U8 w) :
    Calls Tryd.prog 36 #[.slice A n c, .slice A' n' c'] w fun e w' => ∃ A2 c2, e = .returned (.tuple #[.slice A2 l.length c2, .int .i64 0]) ∧ Sl w' w'.heap.size 4 A2 l.length c2 (vals l) ∧ Below w.heap.size w w' := by
  refine (rread_any ks (rowL l) A n c A' n' c' w hn hm hk hx hU).mono ?_
  rintro e w' ⟨hb, h⟩
  rw [row_back hf hok] at h
  rcases h with ⟨_, p, he, ho⟩ | ⟨h, _⟩
  · obtain ⟨A2, c2, hp, hs⟩ := Sl.of_own ho
    subst hp
    exact ⟨A2, c2, he, hs, hb⟩
  · exact absurd rfl h
set_option maxHeartbeats 2000000 in
theorem rb_n (x : List UInt8) (A0 : Option Addr) (n0 c0 : Nat) (l : List V) (A : Option Addr) (n c : Nat) (w : World) (hx : x.length = n0) (hxs : Sl w w.heap.size 1 A0 n0 c0 (u8s x)) (hl : l.length = n) (hn12 : n ≤ 12) (N : Nat) (hm : min (N : Int) 12 = (n : Int)) (hN : n ≤ N) (ha : Sl w w.heap.size 4 A n c (vals l)) (hcn : N ≤ c) (hok : ∀ v ∈ l, v.ok) (F : Int) (hF1 : fitsE (x.take 12) l = F) (hf1 : F ≠ 0) (hU : U8 w) :
    Calls Tryd.prog 9 #[.slice A0 n0 c0, .slice A N c] w fun e w' => e = .returned (.bool true) ∧ Below w.heap.size w w' := by
  have hc := ha.cap
  unfold maxLen at hc
  have hKc : (n : Int) ≤ c := by omega
  have HSA := Lib.hid ha
  have HU := Lib.hid hU
  have HL := Lib.hid hl
  have HOK := Lib.hid hok
  have HF := Lib.hid hF1
  have HXS := Lib.hid hxs
  have HXN := Lib.hid hx
  have HK12 : Hid ((x.take 12).length = min n0 12) := Lib.hid (by rw [List.length_take, hx]; omega)
  have HNF := Lib.hid hf1
  have hg1 : (F != 0) = true := by rw [bne_iff_ne]; exact hf1
  have hg1' : (F == 0) = false := by rw [beq_eq_false_iff_ne]; exact hf1
  clear ha hU hl hok hF1 hf1 hxs hx
  go_enter Tryd.func9, Tryd.ntmps9
  go_wp2_with fail
  refine (awake_r _ HU.out).mono ?_
  rintro e w1 ⟨rfl, hb1⟩
  have HB1 := Lib.hid hb1
  clear hb1
  go_wp2_with (first
    | (at_builtin; refine wpl_app_v rfl (.tmp 15) (.tmp 20) rfl w1.heap.size _ 0 [] rfl (own_emptyV w1) _ _ n _ rfl ((HSA.out.on HB1.out).below (Cell.bel_alloc _ _)).lies (vals_one _) (by omega) (by rw [size_alloc]; omega) ?_; intro v2 w2 hown2 hgrow2; have HB2 := Lib.hid (Cell.bel_trans HB1.out (bel_app hgrow2)); obtain ⟨A2, c2, hv2, hs2⟩ := Sl.of_own hown2; subst hv2; rw [Nat.zero_add, List.nil_append] at hs2; have HS2 := Lib.hid hs2; clear hs2 hown2 hgrow2; simp only [Nat.zero_add])
    | (at_builtin; refine wpl_app_v rfl (.tmp 22) (.tmp 23) rfl w2.heap.size _ 0 [] rfl (own_emptyV w2) _ _ n _ rfl (HS2.out.below (Cell.bel_alloc _ _)).lies (vals_one _) (by omega) (by rw [size_alloc]; omega) ?_; intro v3 w3 hown3 hgrow3))
  have HB3 := Lib.hid (Cell.bel_trans HB2.out (bel_app hgrow3))
  have HS2 := Lib.hid (HS2.out.on (bel_app hgrow3))
  obtain ⟨A3, c3, hv3, hs3⟩ := Sl.of_own hown3
  subst hv3
  rw [Nat.zero_add, List.nil_append] at hs3
  have HS3 := Lib.hid hs3
  clear hs3 hown3 hgrow3
  simp only [Nat.zero_add]
  go_wp2_with fail
  refine (kindsl_any x A0 n0 c0 _ HXN.out (HXS.out.on HB3.out)).mono ?_
  rintro e w4 ⟨A4, c4, rfl, hs4, hb4⟩
  have HB4 := Lib.hid (Cell.bel_trans HB3.out hb4)
  have HS2 := Lib.hid (HS2.out.on hb4)
  have HS3 := Lib.hid (HS3.out.on hb4)
  have HK4 := Lib.hid hs4
  clear hs4 hb4
  go_wp2_with fail
  refine (rbytes_no (x.take 12) l F HF.out HNF.out A4 _ c4 A3 n c3 _ HK12.out HL.out HK4.out HS3.out HOK.out (HU.out.below HB4.out)).mono ?_
  rintro e w5 ⟨rfl, hb5⟩
  have HB5 := Lib.hid (Cell.bel_trans HB4.out hb5)
  have HS2 := Lib.hid (HS2.out.on hb5)
  have HS3 := Lib.hid (HS3.out.on hb5)
  clear hb5
  go_wp2_with fail
  refine (kindsl_any x A0 n0 c0 _ HXN.out (HXS.out.on HB5.out)).mono ?_
  rintro e w6 ⟨A6, c6, rfl, hs6, hb6⟩
  have HB6 := Lib.hid (Cell.bel_trans HB5.out hb6)
  have HS2 := Lib.hid (HS2.out.on hb6)
  have HS3 := Lib.hid (HS3.out.on hb6)
  have HK6 := Lib.hid hs6
  clear hs6 hb6
  go_wp2_with fail
  refine (refb4_no (x.take 12) l F HF.out HNF.out A6 _ c6 A2 n c2 _ HK12.out HL.out HK6.out HS2.out HOK.out).mono ?_
  rintro e w7 ⟨rfl, hb7⟩
  have HB7 := Lib.hid (Cell.bel_trans HB6.out hb7)
  have HS2 := Lib.hid (HS2.out.on hb7)
  have HS3 := Lib.hid (HS3.out.on hb7)
  clear hb7
  go_wp2_with fail
  refine (same_any [] [] none 0 0 none 0 0 _ (sl_nil _ _ _) (sl_nil _ _ _)).mono ?_
  rintro e w8 ⟨rfl, rfl⟩
  simp only [decide_true]
  go_wp2_with fail
  refine (kindsl_any x A0 n0 c0 _ HXN.out (HXS.out.on HB7.out)).mono ?_
  rintro e w8 ⟨A8, c8, rfl, hs8, hb8⟩
  have HB8 := Lib.hid (Cell.bel_trans HB7.out hb8)
  have HS2 := Lib.hid (HS2.out.on hb8)
  have HS3 := Lib.hid (HS3.out.on hb8)
  have HK8 := Lib.hid hs8
  clear hs8 hb8
  go_wp2_with fail
  refine (fits_any (x.take 12) l A8 _ c8 A2 n c2 _ HK12.out HL.out HK8.out HS2.out HOK.out (HU.out.below HB8.out)).mono ?_
  rw [HF.out]
  rintro e w9 ⟨rfl, hb9⟩
  have HB9 := Lib.hid (Cell.bel_trans HB8.out hb9)
  have HS2 := Lib.hid (HS2.out.on hb9)
  have HS3 := Lib.hid (HS3.out.on hb9)
  clear hb9
  go_wp2_with fail
  go_loopw [58] (fun i wr => ∃ k : Nat, k ≤ n ∧ i = .int .i64 k ∧ ∃ m, wr = w9.drewN m) (fun i _ => n - (intOf i).toNat)
  case atStart => exact ⟨0, by omega, rfl, 0, rfl⟩
  case round =>
    obtain ⟨k, hk, rfl, m, hwr⟩ := hrel
    have HBR : Hid (Below w.heap.size w wr) := Lib.hid (by rw [hwr]; exact bel_drewN HB9.out m)
    have HWR := Lib.hid hwr
    have HB99 : Hid (Below w9.heap.size w9 wr) := Lib.hid (by rw [hwr]; exact bel_drewN (Below.refl _ _) m)
    clear hwr
    by_cases hlt : k < n
    · have hlt' : (k : Int) < n := by omega
      obtain ⟨⟨vk, vi, vs, vb⟩, hv⟩ : ∃ v, l[k]? = some v := ⟨_, List.getElem?_eq_getElem (by rw [HL.out]; exact hlt)⟩
      obtain ⟨ad2, hA2, hAt2⟩ := HS2.out.at_ (by omega)
      subst hA2
      obtain ⟨ad3, hA3, hAt3⟩ := HS3.out.at_ (by omega)
      subst hA3
      obtain ⟨x0, x1, x2, x3⟩ := (hAt2.below HB99.out).val hv
      obtain ⟨y0, y1, y2, y3⟩ := (hAt3.below HB99.out).val hv
      dsimp only at x0 x1 x2 x3 y0 y1 y2 y3
      clear hv hAt2 hAt3
      go_wp2_with fail
      go_quiet (fail)
      go_wp2_with fail
      go_roundw
      case rel => exact ⟨k + 1, by omega, by go_num, m + nq, by rw [HWR.out, World.drewN_drewN]⟩
      case measure => simp [intOf]; omega
    · obtain rfl : k = n := by omega
      go_wp2_with fail
      refine (kindsl_any x A0 n0 c0 _ HXN.out (HXS.out.on HBR.out)).mono ?_
      rintro e w10 ⟨A10, c10, rfl, hs10, hb10⟩
      have HB10 := Lib.hid (Cell.bel_trans HBR.out hb10)
      have HK10 := Lib.hid hs10
      clear hs10 hb10
      go_wp2_with fail
      refine (rread_nilrow (x.take 12) A10 _ c10 _ HK12.out HK10.out (HU.out.below HB10.out)).mono ?_
      rintro e w11 ⟨E, rfl, hb11⟩
      have HB11 := Lib.hid (Cell.bel_trans HB10.out hb11)
      clear hb11
      go_wp2_with fail
      go_ret
      exact ⟨rfl, HB11.out⟩
set_option maxHeartbeats 2000000 in
theorem rb_y (x : List UInt8) (A0 : Option Addr) (n0 c0 : Nat) (l : List V) (A : Option Addr) (n c : Nat) (w : World) (hx : x.length = n0) (hxs : Sl w w.heap.size 1 A0 n0 c0 (u8s x)) (hl : l.length = n) (hn12 : n ≤ 12) (N : Nat) (hm : min (N : Int) 12 = (n : Int)) (hN : n ≤ N) (ha : Sl w w.heap.size 4 A n c (vals l)) (hcn : N ≤ c) (hok : ∀ v ∈ l, v.ok) (hF1 : fitsE (x.take 12) l = 0) (hU : U8 w) :
    Calls Tryd.prog 9 #[.slice A0 n0 c0, .slice A N c] w fun e w' => e = .returned (.bool true) ∧ Below w.heap.size w w' := by
  have hc := ha.cap
  unfold maxLen at hc
  have hKc : (n : Int) ≤ c := by omega
  have HSA := Lib.hid ha
  have HU := Lib.hid hU
  have HL := Lib.hid hl
  have HOK := Lib.hid hok
  have HF := Lib.hid hF1
  have HXS := Lib.hid hxs
  have HXN := Lib.hid hx
  have HK12 : Hid ((x.take 12).length = min n0 12) := Lib.hid (by rw [List.length_take, hx]; omega)
  have hz := fits_zero hF1
  have HSM := Lib.hid ((sameRow_right hz.2.2.1 hz.2.2.1 hok hok).2 rfl)
  have HLEN := Lib.hid (rowL_len l)
  clear hz ha hU hl hok hF1 hxs hx
  go_enter Tryd.func9, Tryd.ntmps9
  go_wp2_with fail
  refine (awake_r _ HU.out).mono ?_
  rintro e w1 ⟨rfl, hb1⟩
  have HB1 := Lib.hid hb1
  clear hb1
  go_wp2_with (first
    | (at_builtin; refine wpl_app_v rfl (.tmp 15) (.tmp 20) rfl w1.heap.size _ 0 [] rfl (own_emptyV w1) _ _ n _ rfl ((HSA.out.on HB1.out).below (Cell.bel_alloc _ _)).lies (vals_one _) (by omega) (by rw [size_alloc]; omega) ?_; intro v2 w2 hown2 hgrow2; have HB2 := Lib.hid (Cell.bel_trans HB1.out (bel_app hgrow2)); obtain ⟨A2, c2, hv2, hs2⟩ := Sl.of_own hown2; subst hv2; rw [Nat.zero_add, List.nil_append] at hs2; have HS2 := Lib.hid hs2; clear hs2 hown2 hgrow2; simp only [Nat.zero_add])
    | (at_builtin; refine wpl_app_v rfl (.tmp 22) (.tmp 23) rfl w2.heap.size _ 0 [] rfl (own_emptyV w2) _ _ n _ rfl (HS2.out.below (Cell.bel_alloc _ _)).lies (vals_one _) (by omega) (by rw [size_alloc]; omega) ?_; intro v3 w3 hown3 hgrow3))
  have HB3 := Lib.hid (Cell.bel_trans HB2.out (bel_app hgrow3))
  have HS2 := Lib.hid (HS2.out.on (bel_app hgrow3))
  obtain ⟨A3, c3, hv3, hs3⟩ := Sl.of_own hown3
  subst hv3
  rw [Nat.zero_add, List.nil_append] at hs3
  have HS3 := Lib.hid hs3
  clear hs3 hown3 hgrow3
  simp only [Nat.zero_add]
  go_wp2_with fail
  refine (kindsl_any x A0 n0 c0 _ HXN.out (HXS.out.on HB3.out)).mono ?_
  rintro e w4 ⟨A4, c4, rfl, hs4, hb4⟩
  have HB4 := Lib.hid (Cell.bel_trans HB3.out hb4)
  have HS2 := Lib.hid (HS2.out.on hb4)
  have HS3 := Lib.hid (HS3.out.on hb4)
  have HK4 := Lib.hid hs4
  clear hs4 hb4
  go_wp2_with fail
  refine (rbytes_ok (x.take 12) l HF.out A4 _ c4 A3 n c3 _ HK12.out HL.out HK4.out HS3.out HOK.out (HU.out.below HB4.out)).mono ?_
  rintro e w5 ⟨A5, c5, rfl, hown5, hs5, hb5⟩
  have HP5 := Lib.hid hs5
  clear hown5 hs5
  have HB5 := Lib.hid (Cell.bel_trans HB4.out hb5)
  have HS2 := Lib.hid (HS2.out.on hb5)
  have HS3 := Lib.hid (HS3.out.on hb5)
  clear hb5
  go_wp2_with fail
  refine (kindsl_any x A0 n0 c0 _ HXN.out (HXS.out.on HB5.out)).mono ?_
  rintro e w6 ⟨A6, c6, rfl, hs6, hb6⟩
  have HB6 := Lib.hid (Cell.bel_trans HB5.out hb6)
  have HS2 := Lib.hid (HS2.out.on hb6)
  have HS3 := Lib.hid (HS3.out.on hb6)
  have HK6 := Lib.hid hs6
  have HP5 := Lib.hid (HP5.out.on hb6)
  clear hs6 hb6
  go_wp2_with fail
  refine (refb4_ok (x.take 12) l HF.out A6 _ c6 A2 n c2 _ HK12.out HL.out HK6.out HS2.out HOK.out).mono ?_
  rintro e w7 ⟨A7, c7, rfl, hown7, hs7, hb7⟩
  have HP5 := Lib.hid (HP5.out.on hb7)
  have HP7 := Lib.hid hs7
  clear hown7 hs7
  have HB7 := Lib.hid (Cell.bel_trans HB6.out hb7)
  have HS2 := Lib.hid (HS2.out.on hb7)
  have HS3 := Lib.hid (HS3.out.on hb7)
  clear hb7
  go_wp2_with fail
  refine (same_any (rowL l) (rowL l) A5 _ c5 A7 _ c7 _ HP5.out HP7.out).mono ?_
  rintro e w8 ⟨rfl, rfl⟩
  simp only [decide_true]
  go_wp2_with fail
  refine (kindsl_any x A0 n0 c0 _ HXN.out (HXS.out.on HB7.out)).mono ?_
  rintro e w8 ⟨A8, c8, rfl, hs8, hb8⟩
  have HB8 := Lib.hid (Cell.bel_trans HB7.out hb8)
  have HS2 := Lib.hid (HS2.out.on hb8)
  have HS3 := Lib.hid (HS3.out.on hb8)
  have HK8 := Lib.hid hs8
  have HP5 := Lib.hid (HP5.out.on hb8)
  clear hs8 hb8
  go_wp2_with fail
  refine (fits_any (x.take 12) l A8 _ c8 A2 n c2 _ HK12.out HL.out HK8.out HS2.out HOK.out (HU.out.below HB8.out)).mono ?_
  rw [HF.out]
  rintro e w9 ⟨rfl, hb9⟩
  have HB9 := Lib.hid (Cell.bel_trans HB8.out hb9)
  have HS2 := Lib.hid (HS2.out.on hb9)
  have HS3 := Lib.hid (HS3.out.on hb9)
  have HP5 := Lib.hid (HP5.out.on hb9)
  clear hb9
  go_wp2_with fail
  go_loopw [58] (fun i wr => ∃ k : Nat, k ≤ n ∧ i = .int .i64 k ∧ ∃ m, wr = w9.drewN m) (fun i _ => n - (intOf i).toNat)
  case atStart => exact ⟨0, by omega, rfl, 0, rfl⟩
  case round =>
    obtain ⟨k, hk, rfl, m, hwr⟩ := hrel
    have HBR : Hid (Below w.heap.size w wr) := Lib.hid (by rw [hwr]; exact bel_drewN HB9.out m)
    have HWR := Lib.hid hwr
    have HB99 : Hid (Below w9.heap.size w9 wr) := Lib.hid (by rw [hwr]; exact bel_drewN (Below.refl _ _) m)
    clear hwr
    by_cases hlt : k < n
    · have hlt' : (k : Int) < n := by omega
      obtain ⟨⟨vk, vi, vs, vb⟩, hv⟩ : ∃ v, l[k]? = some v := ⟨_, List.getElem?_eq_getElem (by rw [HL.out]; exact hlt)⟩
      obtain ⟨ad2, hA2, hAt2⟩ := HS2.out.at_ (by omega)
      subst hA2
      obtain ⟨ad3, hA3, hAt3⟩ := HS3.out.at_ (by omega)
      subst hA3
      obtain ⟨x0, x1, x2, x3⟩ := (hAt2.below HB99.out).val hv
      obtain ⟨y0, y1, y2, y3⟩ := (hAt3.below HB99.out).val hv
      dsimp only at x0 x1 x2 x3 y0 y1 y2 y3
      clear hv hAt2 hAt3
      go_wp2_with fail
      go_quiet (fail)
      go_wp2_with fail
      go_roundw
      case rel => exact ⟨k + 1, by omega, by go_num, m + nq, by rw [HWR.out, World.drewN_drewN]⟩
      case measure => simp [intOf]; omega
    · obtain rfl : k = n := by omega
      go_wp2_with fail
      refine (kindsl_any x A0 n0 c0 _ HXN.out (HXS.out.on HBR.out)).mono ?_
      rintro e w10 ⟨A10, c10, rfl, hs10, hb10⟩
      have HB10 := Lib.hid (Cell.bel_trans HBR.out hb10)
      have HK10 := Lib.hid hs10
      have HP5 := Lib.hid ((HP5.out.on HB99.out).on hb10)
      have HS2 := Lib.hid ((HS2.out.on HB99.out).on hb10)
      clear hs10 hb10
      go_wp2_with fail
      refine (rread_back (x.take 12) l HF.out A10 _ c10 A5 _ c5 _ HK12.out HLEN.out HK10.out HP5.out HOK.out (HU.out.below HB10.out)).mono ?_
      rintro e w11 ⟨A11, c11, rfl, hs11, hb11⟩
      have HB11 := Lib.hid (Cell.bel_trans HB10.out hb11)
      have HS2 := Lib.hid (HS2.out.on hb11)
      have HS11 := Lib.hid hs11
      clear hs11 hb11
      rw [HL.out] at HS11
      rw [HL.out]
      go_wp2_with fail
      refine (sameRow_any l l A11 k c11 A2 k c2 _ HL.out HL.out HS11.out HS2.out).mono ?_
      rintro e w12 ⟨rfl, hb12⟩
      have HB12 := Lib.hid (Cell.bel_trans HB11.out hb12)
      clear hb12
      rw [HSM.out]
      go_wp2_with fail
      go_ret
      exact ⟨rfl, HB12.out⟩
theorem rowbytes_walk (w : World) (x : List UInt8) (A0 : Option Addr) (n0 c0 : Nat) (l : List V) (A : Option Addr) (N c : Nat) (hx : x.length = n0) (hxs : Sl w w.heap.size 1 A0 n0 c0 (u8s x)) (hl : l.length = N) (hs : Sl w w.heap.size 4 A N c (vals l)) (hok : ∀ v ∈ l, v.ok) (hU : U8 w) :
    Calls Tryd.prog 9 #[.slice A0 n0 c0, .slice A N c] w fun e w' => e = .returned (.bool true) ∧ Below w.heap.size w w' := by
  have hs' := hs.take (k := min N 12) (by omega)
  rw [vals_take] at hs'
  have l1 : (l.take (min N 12)).length = min N 12 := by rw [List.length_take, hl]; omega
  by_cases hf : fitsE (x.take 12) (l.take (min N 12)) = 0
  · exact rb_y x A0 n0 c0 _ A _ c w hx hxs l1 (by omega) N (by omega) (by omega) hs' hs.le (all_take hok) hf hU
  · exact rb_n x A0 n0 c0 _ A _ c w hx hxs l1 (by omega) N (by omega) (by omega) hs' hs.le (all_take hok) _ rfl hf hU
end Go.Proofs.YtfabcnbblhadnaaDoor.Mem
