/- KeyBytes: its walk. -/
import Derived.Test.YtfabcnbblhadnaaDoorRefB
import Derived.Test.YtfabcnbblhadnaaDoorLOrdersK
import Derived.Test.YtfabcnbblhadnaaDoorSameRow
namespace Go.Proofs.YtfabcnbblhadnaaDoor.Mem
open Go.RowKit Go.Proofs.YtfabcnbblhadnaaDoor.Nums
open Go.Proofs.YtfabcnbblhadnaaDoor.Cell (U8)
set_option linter.unusedVariables false
set_option linter.unusedSimpArgs false
set_option maxRecDepth 100000
theorem sl_nil (w : World) (B sz : Nat) : Sl w B sz none 0 0 [] := ⟨by simp, Nat.le_refl _, by unfold maxLen; omega, fun _ => rfl, fun h => absurd h (by omega)⟩
theorem refb_ok (l : List V) (hr : l.all V.right = true) (A : Option Addr) (n c : Nat) (w : World) (hn : l.length = n) (hn12 : n ≤ 12) (ha : Sl w w.heap.size 4 A n c (vals l)) (hok : ∀ v ∈ l, v.ok) :
    Calls Tryd.prog 17 #[.slice A n c] w (ToldOk l w) :=
  (rbytes03_any l A n c w hn hn12 ha hok).mono fun e w' ⟨hb, h⟩ => by
    rcases h with ⟨_, p, he, ho⟩ | ⟨hf, _⟩
    · obtain ⟨A', c', hp, hs⟩ := Sl.of_own ho
      subst hp
      exact ⟨A', c', he, ho, hb⟩
    · rw [hr] at hf; cases hf
theorem refb_no (l : List V) (hr : l.all V.right = false) (A : Option Addr) (n c : Nat) (w : World) (hn : l.length = n) (hn12 : n ≤ 12) (ha : Sl w w.heap.size 4 A n c (vals l)) (hok : ∀ v ∈ l, v.ok) :
    Calls Tryd.prog 17 #[.slice A n c] w fun e w' => e = .returned (.tuple #[.slice none 0 0, .int .i64 3]) ∧ Below w.heap.size w w' :=
  (rbytes03_any l A n c w hn hn12 ha hok).mono fun e w' ⟨hb, h⟩ => by
    rcases h with ⟨ht, _⟩ | ⟨_, he⟩
    · rw [hr] at ht; cases ht
    · exact ⟨he, hb⟩
theorem kread_back (l : List V) (hr : l.all V.right = true) (hok : ∀ v ∈ l, v.ok) (A : Option Addr) (n c : Nat) (w : World) (hn : n ≤ 1000000) (hx : Sl w w.heap.size 1 A n c (u8s (rowBytes l))) (hU : U8 w) :
    Calls Tryd.prog 19 #[.slice A n c] w fun e w' => Below w.heap.size w w' ∧ ∃ A2 c2, e = .returned (.tuple #[.slice A2 l.length c2, .int .i64 0]) ∧ Sl w' w'.heap.size 4 A2 l.length c2 (vals l) :=
  (kread_any (rowBytes l) A n c w hn hx hU).mono fun e w' ⟨hb, h⟩ => by
    rw [read_back l hr hok] at h
    obtain ⟨p, he, ho⟩ := h
    obtain ⟨A', c', hp, hs⟩ := Sl.of_own ho
    subst hp
    exact ⟨hb, A', c', he, hs⟩
theorem kread_nil (w : World) (hU : U8 w) :
    Calls Tryd.prog 19 #[.slice none 0 0] w fun e w' => Below w.heap.size w w' ∧ ∃ p, e = .returned (.tuple #[p, .int .i64 0]) :=
  (kread_any [] none 0 0 w (by omega) (sl_nil _ _ _) hU).mono fun e w' ⟨hb, h⟩ => by
    rw [readL_nil] at h
    obtain ⟨p, he, ho⟩ := h
    exact ⟨hb, p, he⟩
theorem bytes_yes (l : List V) (A : Option Addr) (n c : Nat) (w : World) (hl : l.length = n) (hn12 : n ≤ 12) (N : Nat) (hm : min (N : Int) 12 = (n : Int)) (hN : n ≤ N) (ha : Sl w w.heap.size 4 A n c (vals l)) (hcn : N ≤ c) (hok : ∀ v ∈ l, v.ok) (hr : l.all V.right = true) (hU : U8 w) :
    Calls Tryd.prog 3 #[.slice A N c] w fun e w' => e = .returned (.bool true) ∧ Below w.heap.size w w' := by
  have hc := ha.cap
  unfold maxLen at hc
  have hKc : (n : Int) ≤ c := by omega
  have HSA := Lib.hid ha
  have HU := Lib.hid hU
  have HL := Lib.hid hl
  have HOK := Lib.hid hok
  have HR := Lib.hid hr
  have HSM := Lib.hid ((sameRow_right hr hr hok hok).2 rfl)
  have hrl := rowBytes_le l hr
  have hlen : (rowBytes l).length ≤ 1000 := by
    have : l.length * 62 ≤ 12 * 62 := Nat.mul_le_mul_right _ (by omega)
    omega
  clear ha hU hl hok hr hrl
  go_enter Tryd.func3, Tryd.ntmps3
  go_wp2_with fail
  refine (awake_k _ HU.out).mono ?_
  rintro e w1 ⟨rfl, hb1⟩
  have HB1 := Lib.hid hb1
  clear hb1
  go_wp2_with (at_builtin; refine wpl_app_v rfl (.tmp 11) (.tmp 16) rfl w1.heap.size _ 0 [] rfl (own_emptyV w1) _ _ n _ rfl ((HSA.out.on HB1.out).below (Cell.bel_alloc _ _)).lies (vals_one _) (by omega) (by rw [size_alloc]; omega) ?_; intro v2 w2 hown2 hgrow2)
  have HB2 := Lib.hid (Cell.bel_trans HB1.out (bel_app hgrow2))
  obtain ⟨A2, c2, hv2, hs2⟩ := Sl.of_own hown2
  subst hv2
  rw [Nat.zero_add, List.nil_append] at hs2
  have HS2 := Lib.hid hs2
  clear hs2 hown2 hgrow2
  simp only [Nat.zero_add]
  go_wp2_with fail
  refine (kbytes_ok l HR.out A2 n c2 _ HL.out hn12 HS2.out HOK.out (HU.out.below HB2.out)).mono ?_
  rintro e w3 ⟨A3, c3, rfl, hown3, hb3⟩
  obtain ⟨A3', c3', he, hs⟩ := Sl.of_own hown3
  injection he with e1 e2 e3
  subst e1 e3
  have HB3 := Lib.hid (Cell.bel_trans HB2.out hb3)
  have HS2 := Lib.hid (HS2.out.on hb3)
  have HP3 := Lib.hid hs
  clear hown3 hb3 hs e2
  go_wp2_with fail
  refine (refb_ok l HR.out A2 n c2 _ HL.out hn12 HS2.out HOK.out).mono ?_
  rintro e w4 ⟨A4, c4, rfl, hown4, hb4⟩
  obtain ⟨A4', c4', he, hs⟩ := Sl.of_own hown4
  injection he with e1 e2 e3
  subst e1 e3
  have HB4 := Lib.hid (Cell.bel_trans HB3.out hb4)
  have HS2 := Lib.hid (HS2.out.on hb4)
  have HP3 := Lib.hid (HP3.out.on hb4)
  have HP4 := Lib.hid hs
  clear hown4 hb4 hs e2
  go_wp2_with fail
  refine (same_any (rowBytes l) (rowBytes l) A3 _ c3 A4 _ c4 _ HP3.out HP4.out).mono ?_
  rintro e w5 ⟨rfl, rfl⟩
  simp only [decide_true]
  go_wp2_with fail
  refine (kread_back l HR.out HOK.out A3 _ c3 _ (by omega) HP3.out (HU.out.below HB4.out)).mono ?_
  rintro e w6 ⟨hb6, A6, c6, rfl, hs6⟩
  have HB6 := Lib.hid (Cell.bel_trans HB4.out hb6)
  have HS2 := Lib.hid (HS2.out.on hb6)
  have HS6 := Lib.hid hs6
  clear hb6 hs6
  rw [HL.out] at HS6
  rw [HL.out]
  go_wp2_with fail
  refine (sameRow_any l l A6 n c6 A2 n c2 _ HL.out HL.out HS6.out HS2.out).mono ?_
  rintro e w7 ⟨rfl, hb7⟩
  have HB7 := Lib.hid (Cell.bel_trans HB6.out hb7)
  clear hb7
  rw [HSM.out]
  go_wp2_with fail
  go_ret
  exact ⟨rfl, HB7.out⟩
theorem bytes_no (l : List V) (A : Option Addr) (n c : Nat) (w : World) (hl : l.length = n) (hn12 : n ≤ 12) (N : Nat) (hm : min (N : Int) 12 = (n : Int)) (hN : n ≤ N) (ha : Sl w w.heap.size 4 A n c (vals l)) (hcn : N ≤ c) (hok : ∀ v ∈ l, v.ok) (hr : l.all V.right = false) (hU : U8 w) :
    Calls Tryd.prog 3 #[.slice A N c] w fun e w' => e = .returned (.bool true) ∧ Below w.heap.size w w' := by
  have hc := ha.cap
  unfold maxLen at hc
  have hKc : (n : Int) ≤ c := by omega
  have HSA := Lib.hid ha
  have HU := Lib.hid hU
  have HL := Lib.hid hl
  have HOK := Lib.hid hok
  have HR := Lib.hid hr
  clear ha hU hl hok hr
  go_enter Tryd.func3, Tryd.ntmps3
  go_wp2_with fail
  refine (awake_k _ HU.out).mono ?_
  rintro e w1 ⟨rfl, hb1⟩
  have HB1 := Lib.hid hb1
  clear hb1
  go_wp2_with (at_builtin; refine wpl_app_v rfl (.tmp 11) (.tmp 16) rfl w1.heap.size _ 0 [] rfl (own_emptyV w1) _ _ n _ rfl ((HSA.out.on HB1.out).below (Cell.bel_alloc _ _)).lies (vals_one _) (by omega) (by rw [size_alloc]; omega) ?_; intro v2 w2 hown2 hgrow2)
  have HB2 := Lib.hid (Cell.bel_trans HB1.out (bel_app hgrow2))
  obtain ⟨A2, c2, hv2, hs2⟩ := Sl.of_own hown2
  subst hv2
  rw [Nat.zero_add, List.nil_append] at hs2
  have HS2 := Lib.hid hs2
  clear hs2 hown2 hgrow2
  simp only [Nat.zero_add]
  go_wp2_with fail
  refine (kbytes_no l HR.out A2 n c2 _ HL.out hn12 HS2.out HOK.out (HU.out.below HB2.out)).mono ?_
  rintro e w3 ⟨rfl, hb3⟩
  have HB3 := Lib.hid (Cell.bel_trans HB2.out hb3)
  have HS2 := Lib.hid (HS2.out.on hb3)
  clear hb3
  go_wp2_with fail
  refine (refb_no l HR.out A2 n c2 _ HL.out hn12 HS2.out HOK.out).mono ?_
  rintro e w4 ⟨rfl, hb4⟩
  have HB4 := Lib.hid (Cell.bel_trans HB3.out hb4)
  clear hb4
  go_wp2_with fail
  refine (same_any [] [] none 0 0 none 0 0 _ (sl_nil _ _ _) (sl_nil _ _ _)).mono ?_
  rintro e w5 ⟨rfl, rfl⟩
  simp only [decide_true]
  go_wp2_with fail
  refine (kread_nil _ (HU.out.below HB4.out)).mono ?_
  rintro e w6 ⟨hb6, p, rfl⟩
  have HB6 := Lib.hid (Cell.bel_trans HB4.out hb6)
  clear hb6
  go_wp2_with fail
  go_ret
  exact ⟨rfl, HB6.out⟩
theorem bytes_walk (w : World) (l : List V) (A : Option Addr) (N c : Nat) (hl : l.length = N) (ha : Sl w w.heap.size 4 A N c (vals l)) (hok : ∀ v ∈ l, v.ok) (hU : U8 w) :
    Calls Tryd.prog 3 #[.slice A N c] w fun e w' => e = .returned (.bool true) ∧ Below w.heap.size w w' := by
  have ha' := ha.take (k := min N 12) (by omega)
  rw [vals_take] at ha'
  have l1 : (l.take (min N 12)).length = min N 12 := by rw [List.length_take, hl]; omega
  cases hr : (l.take (min N 12)).all V.right
  · exact bytes_no _ A _ c w l1 (by omega) N (by omega) (by omega) ha' ha.le (all_take hok) hr hU
  · exact bytes_yes _ A _ c w l1 (by omega) N (by omega) (by omega) ha' ha.le (all_take hok) hr hU
end Go.Proofs.YtfabcnbblhadnaaDoor.Mem
