/- PageStamps: its walk. -/
import Derived.Test.YtepiiknmofgajaaPageZ
import Derived.Test.YtepiiknmofgajaaPageH
import Derived.Test.YtepiiknmofgajaaPageO
import Derived.Test.YtepiiknmofgajaaPageOpen
namespace Go.Proofs.Ytepiiknmofgajaa.Mem
open Go.RowKit Go.Proofs.Ytepiiknmofgajaa.Nums
set_option linter.unusedVariables false
set_option linter.unusedSimpArgs false
set_option maxRecDepth 100000
set_option maxHeartbeats 2000000
theorem sl_own {w : World} {B n c : Nat} {e : TypeId} {A : Option Addr} {xs : List Value} (h : w.ownsRow B e 1 (.slice A n c) n xs) : Sl w w.heap.size 1 A n c xs := by
  obtain ⟨A', c', hv, hs⟩ := Sl.of_own h
  injection hv with h1 _ h3
  subst h1 h3
  exact hs
theorem stamps_walk (w : World) (r a b : Nat) (p s : Int) (x : List UInt8) (A : Option Addr) (n c U : Nat) (p2 s2 : Int) (hx : x.length = n) (hxs : Sl w w.heap.size 1 A n c (u8s x)) (hr : r < 18446744073709551616) (ha : a < 18446744073709551616) (hb : b < 18446744073709551616) (hU : U < 18446744073709551616) :
    Calls Try.prog 7 #[.agg #[.int .u64 r, .int .u64 a, .int .u64 b, .int .i64 p, .int .i64 s, .slice A n c], .int .u64 U, .agg #[.int .i64 p2, .int .i64 s2]] w fun e w' => e = .returned (.bool true) ∧ Below w.heap.size w w' := by
  obtain ⟨d, hd⟩ : ∃ d, x.take 230 = d := ⟨_, rfl⟩
  obtain ⟨m, hm⟩ : ∃ m, min n 230 = m := ⟨_, rfl⟩
  have hdl : d.length = m := by rw [← hd, List.length_take, hx]; omega
  have hm230 : m ≤ 230 := by omega
  have HD := Lib.hid hdl
  obtain ⟨b0, hb0⟩ : ∃ b0, w.heap.size = b0 := ⟨_, rfl⟩
  have HB0 := Lib.hid hb0
  have HF := Lib.hid (fun w1 (h : Sl w1 w1.heap.size 1 A n c (u8s x)) => few_any r a b p s A n c x w1 h)
  rw [hd, hm] at HF
  obtain ⟨W0, hW0⟩ : ∃ W0, (w.alloc (.cells #[.int .u64 r, .int .u64 a, .int .u64 b, .int .i64 p, .int .i64 s, .slice A n c] 33)).alloc (.cells #[.int .i64 p2, .int .i64 s2] 30) = W0 := ⟨_, rfl⟩
  have HW0 := Lib.hid hW0
  have hs0 : W0.heap.size = b0 + 2 := by rw [← hW0, size_alloc, size_alloc, hb0]
  have hk0 : Blk W0 b0 33 #[.int .u64 r, .int .u64 a, .int .u64 b, .int .i64 p, .int .i64 s, .slice A n c] := by rw [← hW0, ← hb0]; exact Blk.alloc (Blk.new w _ _) _
  have hk1 : Blk W0 (b0 + 1) 30 #[.int .i64 p2, .int .i64 s2] := by
    rw [← hW0, ← hb0]
    have h := Blk.new (w.alloc (.cells #[.int .u64 r, .int .u64 a, .int .u64 b, .int .i64 p, .int .i64 s, .slice A n c] 33)) 30 #[.int .i64 p2, .int .i64 s2]
    rwa [size_alloc] at h
  have HBW0 : Hid (Below b0 w W0) := Lib.hid (by rw [← hW0, ← hb0]; exact bel_trans (bel_alloc _ _) (bel_alloc _ _))
  have HXS : Hid (Sl W0 b0 1 A n c (u8s x)) := Lib.hid (by rw [← hb0] at *; exact hxs.below HBW0.out)
  have HK0 := Lib.hid hk0
  have HK1 := Lib.hid hk1
  clear hd hm hdl hk0 hk1 hW0 hx hxs
  go_enter Try.func7, Try.ntmps7
  go_wp2_with fail
  rw [HW0.out]
  refine (awake5 _).mono ?_
  rintro e w1 ⟨rfl, hb1⟩
  rw [hs0] at hb1
  have HK0 := Lib.hid (Blk.below HK0.out hb1 (by omega))
  have HK1 := Lib.hid (Blk.below HK1.out hb1 (by omega))
  have hs1 : b0 + 2 ≤ w1.heap.size := by rw [← hs0]; exact hb1.size
  have HBW1 := Lib.hid (HBW0.out.trans (hb1.mono (by omega)))
  have HXS := Lib.hid (HXS.out.below (hb1.mono (by omega)))
  have x0 := HK0.out.cell 0
  have x1 := HK0.out.cell 1
  have x2 := HK0.out.cell 2
  have x3 := HK0.out.cell 3
  have x4 := HK0.out.cell 4
  have x5 := HK0.out.cell 5
  clear hb1
  go_wp2_with fail
  refine (HF.out w1 (HXS.out.more (by omega))).mono ?_
  rintro e w2 ⟨v, rfl, hown, hb2⟩
  obtain ⟨Av, cv, hv, hsv⟩ := Sl.of_own hown
  subst hv
  have HK0 := Lib.hid (Blk.below HK0.out hb2 (by omega))
  have HK1 := Lib.hid (Blk.below HK1.out hb2 (by omega))
  have HOWN : Hid (w2.ownsRow (b0 + 2) 5 1 (.slice Av m cv) m (u8s d)) := Lib.hid (own_mono hown hs1)
  have hs2 : b0 + 2 ≤ w2.heap.size := Nat.le_trans hs1 hb2.size
  have HBW2 := Lib.hid (HBW1.out.trans (hb2.mono (by omega)))
  clear x0 x1 x2 x3 x4 x5 hown hsv hb2
  have q0 := HK0.out.cell 0
  have q1 := HK0.out.cell 1
  have q2 := HK0.out.cell 2
  have q3 := HK0.out.cell 3
  have q4 := HK0.out.cell 4
  have q5 := HK0.out.cell 5
  have f0 := HK0.out.frozen 0
  have f1 := HK0.out.frozen 1
  have f2 := HK0.out.frozen 2
  have f3 := HK0.out.frozen 3
  have f4 := HK0.out.frozen 4
  have f5 := HK0.out.frozen 5
  go_wp2_with fail
  clear q0 q1 q2 q3 q4 q5 f0 f1 f2 f3 f4 f5
  obtain ⟨w3, hw3⟩ : ∃ w3, put6 w2 b0 (.int .u64 r) (.int .u64 a) (.int .u64 b) (.int .i64 p) (.int .i64 s) (.slice Av m cv) = w3 := ⟨_, rfl⟩
  have HK0 : Hid (Blk w3 b0 33 #[.int .u64 r, .int .u64 a, .int .u64 b, .int .i64 p, .int .i64 s, .slice Av m cv]) := Lib.hid (by rw [← hw3]; exact Blk.put6 HK0.out _ _ _ _ _ _)
  have HK1 : Hid (Blk w3 (b0 + 1) 30 #[.int .i64 p2, .int .i64 s2]) := Lib.hid (by rw [← hw3]; exact (put6_other _ _ _ _ _ _ _ _ _ (by omega)).trans HK1.out)
  have HOWN : Hid (w3.ownsRow (b0 + 2) 5 1 (.slice Av m cv) m (u8s d)) := Lib.hid (by
    rw [← hw3]
    exact own_keep HOWN.out (fun k hk => put6_other _ _ _ _ _ _ _ _ _ (by have := (HOWN.out.lt k hk).1; omega)))
  have HBW3 : Hid (Below b0 w w3) := Lib.hid (by rw [← hw3]; exact Below.put6 HBW2.out (Nat.le_refl _) _ _ _ _ _ _)
  have hs3 : b0 + 2 ≤ w3.heap.size := Nat.lt_of_le_of_lt (Nat.le_refl _) (Blk.lt HK1.out)
  unfold put6 at hw3
  rw [hw3]
  clear hw3
  refine (new_pg w3).mono ?_
  rintro e w4 ⟨rfl, hp4, hb4⟩
  obtain ⟨P, hP⟩ : ∃ P, w3.heap.size = P := ⟨_, rfl⟩
  rw [hP] at hp4 hb4 hs3 ⊢
  have HP4 := Lib.hid hp4
  have HK0 := Lib.hid (Blk.below HK0.out hb4 (by omega))
  have HK1 := Lib.hid (Blk.below HK1.out hb4 (by omega))
  have HOP : Hid (∀ k, (Value.slice Av m cv).ownBlock = some k → k < P) := Lib.hid fun k hk => by rw [← hP]; exact (HOWN.out.lt k hk).2
  have HOWN := Lib.hid (own_keep HOWN.out (fun k hk => hb4.block k (HOP.out k hk)))
  have HBW4 := Lib.hid (HBW3.out.trans (hb4.mono (by omega)))
  have hs4 : b0 + 2 ≤ w4.heap.size := Nat.lt_of_le_of_lt (Nat.le_refl _) (Blk.lt HK1.out)
  have x0 := HK0.out.cell 0
  have x1 := HK0.out.cell 1
  have x2 := HK0.out.cell 2
  have x3 := HK0.out.cell 3
  have x4 := HK0.out.cell 4
  have x5 := HK0.out.cell 5
  clear hp4 hb4
  go_wp2_with fail
  by_cases hok : tuOk r a b p s m = true
  rotate_left
  · have hokf : tuOk r a b p s m = false := by cases h : tuOk r a b p s m <;> simp_all
    refine (insert_form P r a b m cv p s Av w4 hokf).mono ?_
    rintro e w5 ⟨rfl, hb5⟩
    have HK0 := Lib.hid (Blk.below HK0.out hb5 (Blk.lt HK0.out))
    have HBW5 := Lib.hid (HBW4.out.trans (hb5.mono (by omega)))
    have CR := Lib.hid (rright_any r a b p s Av m cv w5)
    rw [hokf] at CR
    clear x0 x1 x2 x3 x4 x5 hb5 hok hokf
    have x0 := HK0.out.cell 0
    have x1 := HK0.out.cell 1
    have x2 := HK0.out.cell 2
    have x3 := HK0.out.cell 3
    have x4 := HK0.out.cell 4
    have x5 := HK0.out.cell 5
    go_wp2_with fail
    refine CR.out.mono ?_
    rintro e w6 ⟨rfl, hb6⟩
    have HBW6 := Lib.hid (HBW5.out.trans (hb6.mono (by have := HBW5.out.size; omega)))
    clear hb6
    go_wp2_with fail
    go_ret
    exact ⟨rfl, by rw [HB0.out]; exact HBW6.out⟩
  · have hok' := hok
    unfold tuOk at hok'
    simp only [Bool.and_eq_true, decide_eq_true_eq] at hok'
    obtain ⟨⟨⟨⟨_, _⟩, hbM⟩, hnx⟩, hm200⟩ := hok'
    obtain ⟨P1, S1, hp1, hsx1, hP1, hS1⟩ := nx_nat hnx
    refine (insert_ok P 0 r a b P1 S1 m cv (482 - m) p s Av d X0 w4 HP4.out x0_fine x0_next HD.out (sl_own HOWN.out) hok hr ha hb hp1 hsx1 hP1 hS1 hm200 (by rw [x0_room]; omega) (by rw [x0_bg]; omega) (by rw [x0_sl]; omega) (by omega)).mono ?_
    rintro e w5 ⟨rfl, hp5, ho5⟩
    rw [x0_sl] at hp5
    have z0 : (lay X0 0 (nb 1 2)).length = 512 := by rw [lay_len (by rw [nb_len, x0_len]; omega), x0_len]
    have hvl : (verL r a b P1 S1 d).length = 30 + m := by rw [verL_len, HD.out]
    have HONE := Lib.hid (one_place (verL r a b P1 S1 d) m (482 - m) hvl hm200 (by omega))
    have HMID := Lib.hid (placeL_mid (X := lay X0 0 (nb 1 2)) (vl := verL r a b P1 S1 d) (s := 0) (at_ := 482 - m) z0 (by rw [hvl]; omega) (by omega))
    have hp5 : Pg w5 P (placeL (lay X0 0 (nb 1 2)) 0 (482 - m) (verL r a b P1 S1 d)) := hp5
    obtain ⟨Y1, hY1⟩ : ∃ Y1, placeL (lay X0 0 (nb 1 2)) 0 (482 - m) (verL r a b P1 S1 d) = Y1 := ⟨_, rfl⟩
    rw [hY1] at hp5 HONE HMID
    have HP5 := Lib.hid hp5
    have HK0 := Lib.hid (ho5.blk HK0.out (by omega))
    have HK1 := Lib.hid (ho5.blk HK1.out (by omega))
    have HOWN := Lib.hid (own_keep HOWN.out (fun k hk => ho5.block k (HOWN.out.lt k hk).2 (by have := HOP.out k hk; omega)))
    have HBW5 := Lib.hid (HBW4.out.trans (ho5.below (by omega) (by omega)))
    clear hp5 ho5 hY1 z0 hvl hok x0 x1 x2 x3 x4 x5
    have n0 := HK1.out.cell 0
    have n1 := HK1.out.cell 1
    go_wp2_with fail
    by_cases hst : U ≤ 1099511627776 ∧ nxOk p2 s2 = true
    rotate_left
    · refine (stamp_form (some ⟨P, 0, none⟩) 0 U p2 s2 w5 P rfl hst).mono ?_
      rintro e w6 ⟨rfl, hb6⟩
      have HPE6 : Hid (Pg w6 P Y1) := Lib.hid ⟨Blk.below HP5.out.1 hb6 (Blk.lt HP5.out.1), HP5.out.2⟩
      have HK06 := Lib.hid (Blk.below HK0.out hb6 (Blk.lt HK0.out))
      have HK16 := Lib.hid (Blk.below HK1.out hb6 (Blk.lt HK1.out))
      have HOWN6 := Lib.hid (own_keep HOWN.out (fun k hk => hb6.block k (HOWN.out.lt k hk).2))
      have HB6 := Lib.hid (HBW5.out.trans (hb6.mono (Nat.le_trans (Nat.le_of_lt (Blk.lt HK0.out)) (Nat.le_refl _))))
      clear hb6 n0 n1
      by_cases hUM : U ≤ 1099511627776
      · have hnf : nxOk p2 s2 = false := by
          cases h : nxOk p2 s2
          · rfl
          · exact absurd ⟨hUM, h⟩ hst
        have hu1 : ¬ (1099511627776 : Int) < U := by omega
        have n0 := HK16.out.cell 0
        have n1 := HK16.out.cell 1
        have CX := Lib.hid (far_any p2 s2 w6)
        rw [far_not, hnf] at CX
        clear hst
        go_wp2_with fail
        refine CX.out.mono ?_
        rintro e we ⟨rfl, hb7⟩
        have HPE : Hid (Pg we P Y1) := Lib.hid ⟨Blk.below HPE6.out.1 hb7 (Blk.lt HPE6.out.1), HPE6.out.2⟩
        have HKE := Lib.hid (Blk.below HK06.out hb7 (Blk.lt HK06.out))
        have HOWNE := Lib.hid (own_keep HOWN6.out (fun k hk => hb7.block k (HOWN6.out.lt k hk).2))
        have HBE := Lib.hid (HB6.out.trans (hb7.mono (Nat.le_trans (Nat.le_of_lt (Blk.lt HK06.out)) (Nat.le_refl _))))
        clear hb7 n0 n1
        simp only [Bool.not_false]
        have g := HMID.out
        obtain ⟨pre, post, hmid, hpre⟩ := g
        obtain ⟨y0, y1, y2, y3, y4, y5⟩ := getN_ver pre post d r a b P1 S1 (482 - m) hpre hr ha hb hP1 hS1
        rw [← hmid] at y0 y1 y2 y3 y4 y5
        have CG := Lib.hid (get_some P 0 (482 - m) (30 + m) Y1 we HPE.out HONE.out.fine (by rw [HONE.out.sl]; omega) HONE.out.fr HONE.out.sz (by omega))
        unfold tuV at CG
        rw [y0, y1, y2, y3, y4, show 30 + m - 30 = m by omega] at CG
        rw [HD.out] at y5
        rw [y5] at CG
        rw [show ((P1 : Nat) : Int) - 1 = p by omega, show ((S1 : Nat) : Int) - 1 = s by omega] at CG
        clear y0 y1 y2 y3 y4 y5 hmid hpre pre post
        go_wp2_with fail
        refine CG.out.mono ?_
        rintro e wg ⟨vg, rfl, hgo, hgb⟩
        obtain ⟨Ag, cg, hv, hsg⟩ := Sl.of_own hgo
        subst hv
        have HKG := Lib.hid (Blk.below HKE.out hgb (Blk.lt HKE.out))
        have HPG : Hid (Pg wg P Y1) := Lib.hid ⟨Blk.below HPE.out.1 hgb (Blk.lt HPE.out.1), HPE.out.2⟩
        have HOG := Lib.hid (own_keep HOWNE.out (fun k hk => hgb.block k (HOWNE.out.lt k hk).2))
        have HGO := Lib.hid hgo
        have HBG := Lib.hid (HBE.out.trans (hgb.mono (Nat.le_trans (Nat.le_of_lt (Blk.lt HKE.out)) (Nat.le_refl _))))
        clear hgo hsg hgb
        obtain ⟨wq, hwq⟩ : ∃ wq, wg.alloc (.cells #[.int .u64 r, .int .u64 a, .int .u64 b, .int .i64 p, .int .i64 s, .slice Ag m cg] 33) = wq := ⟨_, rfl⟩
        have HWQ := Lib.hid hwq
        have HSA := Lib.hid (sl_own (World.ownsRow.alloc HGO.out (.cells #[.int .u64 r, .int .u64 a, .int .u64 b, .int .i64 p, .int .i64 s, .slice Ag m cg] 33)))
        have HSB := Lib.hid (sl_own (World.ownsRow.alloc HOG.out (.cells #[.int .u64 r, .int .u64 a, .int .u64 b, .int .i64 p, .int .i64 s, .slice Ag m cg] 33)))
        have HKQ := Lib.hid (Blk.alloc HKG.out (.cells #[.int .u64 r, .int .u64 a, .int .u64 b, .int .i64 p, .int .i64 s, .slice Ag m cg] 33))
        have hbq : Below wg.heap.size wg wq := by rw [← hwq]; exact bel_alloc _ _
        have HPQ : Hid (Pg wq P Y1) := Lib.hid ⟨Blk.below HPG.out.1 hbq (Blk.lt HPG.out.1), HPG.out.2⟩
        have HBQ := Lib.hid (HBG.out.trans (hbq.mono (Nat.le_of_lt (Blk.lt HKG.out))))
        have hbw : b0 ≤ wq.heap.size := Nat.le_trans (Nat.le_of_lt (Blk.lt HKG.out)) hbq.size
        have x0 := HKQ.out.cell 0
        have x1 := HKQ.out.cell 1
        have x2 := HKQ.out.cell 2
        have x3 := HKQ.out.cell 3
        have x4 := HKQ.out.cell 4
        have x5 := HKQ.out.cell 5
        clear hwq hbq
        go_wp2_with fail
        clear x0 x1 x2 x3 x4 x5
        rw [HWQ.out] at HSA HSB ⊢
        refine (samet_yes r a b p s (Ag) (Av) m cg m cv d wq HSA.out HSB.out).mono ?_
        rintro e wh ⟨rfl, hbh⟩
        have HPH : Hid (Pg wh P Y1) := Lib.hid ⟨Blk.below HPQ.out.1 hbh (Blk.lt HPQ.out.1), HPQ.out.2⟩
        have HBH := Lib.hid (HBQ.out.trans (hbh.mono hbw))
        have CU := Lib.hid (used_pg P Y1 wh HPH.out HONE.out.fine)
        rw [HONE.out.used] at CU
        clear hbh
        go_wp2_with fail
        refine CU.out.mono ?_
        rintro e wi ⟨rfl, mi, rfl⟩
        go_wp2_with fail
        go_ret
        exact ⟨rfl, by rw [HB0.out]; exact ⟨HBH.out.os, HBH.out.tape, HBH.out.output, HBH.out.size, HBH.out.block⟩⟩

      · have hu1 : (1099511627776 : Int) < U := by omega
        have HPE := HPE6
        have HKE := HK06
        have HOWNE := HOWN6
        have HBE := HB6
        clear hst
        have g := HMID.out
        obtain ⟨pre, post, hmid, hpre⟩ := g
        obtain ⟨y0, y1, y2, y3, y4, y5⟩ := getN_ver pre post d r a b P1 S1 (482 - m) hpre hr ha hb hP1 hS1
        rw [← hmid] at y0 y1 y2 y3 y4 y5
        have CG := Lib.hid (get_some P 0 (482 - m) (30 + m) Y1 w6 HPE.out HONE.out.fine (by rw [HONE.out.sl]; omega) HONE.out.fr HONE.out.sz (by omega))
        unfold tuV at CG
        rw [y0, y1, y2, y3, y4, show 30 + m - 30 = m by omega] at CG
        rw [HD.out] at y5
        rw [y5] at CG
        rw [show ((P1 : Nat) : Int) - 1 = p by omega, show ((S1 : Nat) : Int) - 1 = s by omega] at CG
        clear y0 y1 y2 y3 y4 y5 hmid hpre pre post
        go_wp2_with fail
        refine CG.out.mono ?_
        rintro e wg ⟨vg, rfl, hgo, hgb⟩
        obtain ⟨Ag, cg, hv, hsg⟩ := Sl.of_own hgo
        subst hv
        have HKG := Lib.hid (Blk.below HKE.out hgb (Blk.lt HKE.out))
        have HPG : Hid (Pg wg P Y1) := Lib.hid ⟨Blk.below HPE.out.1 hgb (Blk.lt HPE.out.1), HPE.out.2⟩
        have HOG := Lib.hid (own_keep HOWNE.out (fun k hk => hgb.block k (HOWNE.out.lt k hk).2))
        have HGO := Lib.hid hgo
        have HBG := Lib.hid (HBE.out.trans (hgb.mono (Nat.le_trans (Nat.le_of_lt (Blk.lt HKE.out)) (Nat.le_refl _))))
        clear hgo hsg hgb
        obtain ⟨wq, hwq⟩ : ∃ wq, wg.alloc (.cells #[.int .u64 r, .int .u64 a, .int .u64 b, .int .i64 p, .int .i64 s, .slice Ag m cg] 33) = wq := ⟨_, rfl⟩
        have HWQ := Lib.hid hwq
        have HSA := Lib.hid (sl_own (World.ownsRow.alloc HGO.out (.cells #[.int .u64 r, .int .u64 a, .int .u64 b, .int .i64 p, .int .i64 s, .slice Ag m cg] 33)))
        have HSB := Lib.hid (sl_own (World.ownsRow.alloc HOG.out (.cells #[.int .u64 r, .int .u64 a, .int .u64 b, .int .i64 p, .int .i64 s, .slice Ag m cg] 33)))
        have HKQ := Lib.hid (Blk.alloc HKG.out (.cells #[.int .u64 r, .int .u64 a, .int .u64 b, .int .i64 p, .int .i64 s, .slice Ag m cg] 33))
        have hbq : Below wg.heap.size wg wq := by rw [← hwq]; exact bel_alloc _ _
        have HPQ : Hid (Pg wq P Y1) := Lib.hid ⟨Blk.below HPG.out.1 hbq (Blk.lt HPG.out.1), HPG.out.2⟩
        have HBQ := Lib.hid (HBG.out.trans (hbq.mono (Nat.le_of_lt (Blk.lt HKG.out))))
        have hbw : b0 ≤ wq.heap.size := Nat.le_trans (Nat.le_of_lt (Blk.lt HKG.out)) hbq.size
        have x0 := HKQ.out.cell 0
        have x1 := HKQ.out.cell 1
        have x2 := HKQ.out.cell 2
        have x3 := HKQ.out.cell 3
        have x4 := HKQ.out.cell 4
        have x5 := HKQ.out.cell 5
        clear hwq hbq
        go_wp2_with fail
        clear x0 x1 x2 x3 x4 x5
        rw [HWQ.out] at HSA HSB ⊢
        refine (samet_yes r a b p s (Ag) (Av) m cg m cv d wq HSA.out HSB.out).mono ?_
        rintro e wh ⟨rfl, hbh⟩
        have HPH : Hid (Pg wh P Y1) := Lib.hid ⟨Blk.below HPQ.out.1 hbh (Blk.lt HPQ.out.1), HPQ.out.2⟩
        have HBH := Lib.hid (HBQ.out.trans (hbh.mono hbw))
        have CU := Lib.hid (used_pg P Y1 wh HPH.out HONE.out.fine)
        rw [HONE.out.used] at CU
        clear hbh
        go_wp2_with fail
        refine CU.out.mono ?_
        rintro e wi ⟨rfl, mi, rfl⟩
        go_wp2_with fail
        go_ret
        exact ⟨rfl, by rw [HB0.out]; exact ⟨HBH.out.os, HBH.out.tape, HBH.out.output, HBH.out.size, HBH.out.block⟩⟩
    · obtain ⟨P2, S2, hp2, hsx2, hP2, hS2⟩ := nx_nat hst.2
      refine (stamp_ok P 0 (482 - m) (30 + m) U P2 S2 p2 s2 Y1 w5 HP5.out HONE.out.fine (by rw [HONE.out.sl]; omega) HONE.out.fr HONE.out.sz (by omega) hst.1 hst.2 hp2 hsx2 hP2 hS2).mono ?_
      rintro e w6 ⟨rfl, hp6, ho6⟩
      have hMID : ∃ pre post, stampL Y1 (482 - m) U P2 S2 = pre ++ (verL r a U P2 S2 d ++ post) ∧ pre.length = 482 - m := by
        obtain ⟨pre, post, hmid, hpre⟩ := HMID.out
        exact ⟨pre, post, by rw [hmid]; exact stampL_mid pre post d r a b P1 S1 U P2 S2 (482 - m) hpre, hpre⟩
      have HONE := Lib.hid (one_stamp (U := U) (P1 := P2) (S1 := S2) HP5.out.2 HONE.out (by omega))
      obtain ⟨Y2, hY2⟩ : ∃ Y2, stampL Y1 (482 - m) U P2 S2 = Y2 := ⟨_, rfl⟩
      rw [hY2] at hp6 hMID HONE
      have HMID := Lib.hid hMID
      have HPE6 := Lib.hid hp6
      have HK06 := Lib.hid (ho6.blk HK0.out (by omega))
      have HK16 := Lib.hid (ho6.blk HK1.out (by omega))
      have HOWN6 := Lib.hid (own_keep HOWN.out (fun k hk => ho6.block k (HOWN.out.lt k hk).2 (by have := HOP.out k hk; omega)))
      have HB6 := Lib.hid (HBW5.out.trans (ho6.below (by have := Blk.lt HK0.out; omega) (by omega)))
      have hu1 : ¬ (1099511627776 : Int) < U := by have := hst.1; omega
      have CX := Lib.hid (far_any p2 s2 w6)
      rw [far_not, hst.2] at CX
      clear hp6 ho6 hY2 hMID n0 n1 hst
      have n0 := HK16.out.cell 0
      have n1 := HK16.out.cell 1
      go_wp2_with fail
      refine CX.out.mono ?_
      rintro e w7 ⟨rfl, hb7⟩
      have HPE7 : Hid (Pg w7 P Y2) := Lib.hid ⟨Blk.below HPE6.out.1 hb7 (Blk.lt HPE6.out.1), HPE6.out.2⟩
      have HK07 := Lib.hid (Blk.below HK06.out hb7 (Blk.lt HK06.out))
      have HK17 := Lib.hid (Blk.below HK16.out hb7 (Blk.lt HK16.out))
      have HOWN7 := Lib.hid (own_keep HOWN6.out (fun k hk => hb7.block k (HOWN6.out.lt k hk).2))
      have HB7 := Lib.hid (HB6.out.trans (hb7.mono (Nat.le_trans (Nat.le_of_lt (Blk.lt HK06.out)) (Nat.le_refl _))))
      clear hb7 n0 n1
      simp only [Bool.not_true]
      have n0 := HK17.out.cell 0
      have n1 := HK17.out.cell 1
      have x2 := HK07.out.cell 2
      have x3 := HK07.out.cell 3
      have x4 := HK07.out.cell 4
      have f2 := HK07.out.frozen 2
      have f3 := HK07.out.frozen 3
      have f4 := HK07.out.frozen 4
      go_wp2_with fail
      go_region
      clear n0 n1 x2 x3 x4 f2 f3 f4
      obtain ⟨we, hwe⟩ : ∃ we, (((w7.setCell ⟨b0, 2, none⟩ (.int .u64 U)).setCell ⟨b0, 3, none⟩ (.int .i64 p2)).setCell ⟨b0, 4, none⟩ (.int .i64 s2)).drew = we := ⟨_, rfl⟩
      have HKE : Hid (Blk we b0 33 #[.int .u64 r, .int .u64 a, .int .u64 U, .int .i64 p2, .int .i64 s2, .slice Av m cv]) := Lib.hid (by
        rw [← hwe]
        exact Blk.drew (Blk.set_ (Blk.set_ (Blk.set_ HK07.out 2 (.int .u64 U)) 3 (.int .i64 p2)) 4 (.int .i64 s2)))
      have hot : ∀ k, k ≠ b0 → we.heap[k]? = w7.heap[k]? := by
        intro k hk
        rw [← hwe]
        show (((w7.setCell ⟨b0, 2, none⟩ (.int .u64 U)).setCell ⟨b0, 3, none⟩ (.int .i64 p2)).setCell ⟨b0, 4, none⟩ (.int .i64 s2)).heap[k]? = _
        rw [Below.heap_setCell _ _ _ _ hk, Below.heap_setCell _ _ _ _ hk, Below.heap_setCell _ _ _ _ hk]
      have HPE : Hid (Pg we P Y2) := Lib.hid ⟨(hot P (by omega)).trans HPE7.out.1, HPE7.out.2⟩
      have HOWNE := Lib.hid (own_keep HOWN7.out (fun k hk => hot k (by have := (HOWN7.out.lt k hk).1; omega)))
      have HBE : Hid (Below b0 w we) := Lib.hid (by
        rw [← hwe]
        exact (((HB7.out.setCell (p := ⟨b0, 2, none⟩) (Nat.le_refl _) _).setCell (p := ⟨b0, 3, none⟩) (Nat.le_refl _) _).setCell (p := ⟨b0, 4, none⟩) (Nat.le_refl _) _).drew)
      rw [hwe]
      clear hwe hot
      have g := HMID.out
      obtain ⟨pre, post, hmid, hpre⟩ := g
      obtain ⟨y0, y1, y2, y3, y4, y5⟩ := getN_ver pre post d r a U P2 S2 (482 - m) hpre hr ha hU hP2 hS2
      rw [← hmid] at y0 y1 y2 y3 y4 y5
      have CG := Lib.hid (get_some P 0 (482 - m) (30 + m) Y2 we HPE.out HONE.out.fine (by rw [HONE.out.sl]; omega) HONE.out.fr HONE.out.sz (by omega))
      unfold tuV at CG
      rw [y0, y1, y2, y3, y4, show 30 + m - 30 = m by omega] at CG
      rw [HD.out] at y5
      rw [y5] at CG
      rw [show ((P2 : Nat) : Int) - 1 = p2 by omega, show ((S2 : Nat) : Int) - 1 = s2 by omega] at CG
      clear y0 y1 y2 y3 y4 y5 hmid hpre pre post
      go_wp2_with fail
      refine CG.out.mono ?_
      rintro e wg ⟨vg, rfl, hgo, hgb⟩
      obtain ⟨Ag, cg, hv, hsg⟩ := Sl.of_own hgo
      subst hv
      have HKG := Lib.hid (Blk.below HKE.out hgb (Blk.lt HKE.out))
      have HPG : Hid (Pg wg P Y2) := Lib.hid ⟨Blk.below HPE.out.1 hgb (Blk.lt HPE.out.1), HPE.out.2⟩
      have HOG := Lib.hid (own_keep HOWNE.out (fun k hk => hgb.block k (HOWNE.out.lt k hk).2))
      have HGO := Lib.hid hgo
      have HBG := Lib.hid (HBE.out.trans (hgb.mono (Nat.le_trans (Nat.le_of_lt (Blk.lt HKE.out)) (Nat.le_refl _))))
      clear hgo hsg hgb
      obtain ⟨wq, hwq⟩ : ∃ wq, wg.alloc (.cells #[.int .u64 r, .int .u64 a, .int .u64 U, .int .i64 p2, .int .i64 s2, .slice Ag m cg] 33) = wq := ⟨_, rfl⟩
      have HWQ := Lib.hid hwq
      have HSA := Lib.hid (sl_own (World.ownsRow.alloc HGO.out (.cells #[.int .u64 r, .int .u64 a, .int .u64 U, .int .i64 p2, .int .i64 s2, .slice Ag m cg] 33)))
      have HSB := Lib.hid (sl_own (World.ownsRow.alloc HOG.out (.cells #[.int .u64 r, .int .u64 a, .int .u64 U, .int .i64 p2, .int .i64 s2, .slice Ag m cg] 33)))
      have HKQ := Lib.hid (Blk.alloc HKG.out (.cells #[.int .u64 r, .int .u64 a, .int .u64 U, .int .i64 p2, .int .i64 s2, .slice Ag m cg] 33))
      have hbq : Below wg.heap.size wg wq := by rw [← hwq]; exact bel_alloc _ _
      have HPQ : Hid (Pg wq P Y2) := Lib.hid ⟨Blk.below HPG.out.1 hbq (Blk.lt HPG.out.1), HPG.out.2⟩
      have HBQ := Lib.hid (HBG.out.trans (hbq.mono (Nat.le_of_lt (Blk.lt HKG.out))))
      have hbw : b0 ≤ wq.heap.size := Nat.le_trans (Nat.le_of_lt (Blk.lt HKG.out)) hbq.size
      have x0 := HKQ.out.cell 0
      have x1 := HKQ.out.cell 1
      have x2 := HKQ.out.cell 2
      have x3 := HKQ.out.cell 3
      have x4 := HKQ.out.cell 4
      have x5 := HKQ.out.cell 5
      clear hwq hbq
      go_wp2_with fail
      clear x0 x1 x2 x3 x4 x5
      rw [HWQ.out] at HSA HSB ⊢
      refine (samet_yes r a U p2 s2 (Ag) (Av) m cg m cv d wq HSA.out HSB.out).mono ?_
      rintro e wh ⟨rfl, hbh⟩
      have HPH : Hid (Pg wh P Y2) := Lib.hid ⟨Blk.below HPQ.out.1 hbh (Blk.lt HPQ.out.1), HPQ.out.2⟩
      have HBH := Lib.hid (HBQ.out.trans (hbh.mono hbw))
      have CU := Lib.hid (used_pg P Y2 wh HPH.out HONE.out.fine)
      rw [HONE.out.used] at CU
      clear hbh
      go_wp2_with fail
      refine CU.out.mono ?_
      rintro e wi ⟨rfl, mi, rfl⟩
      go_wp2_with fail
      go_ret
      exact ⟨rfl, by rw [HB0.out]; exact ⟨HBH.out.os, HBH.out.tape, HBH.out.output, HBH.out.size, HBH.out.block⟩⟩
end Go.Proofs.Ytepiiknmofgajaa.Mem

