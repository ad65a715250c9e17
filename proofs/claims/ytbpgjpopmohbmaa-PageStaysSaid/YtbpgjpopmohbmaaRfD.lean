/- lapidaryref05.Free. -/
import Derived.Test.YtbpgjpopmohbmaaRfC
import Derived.BigQuiet
namespace Go.Proofs.Ytbpgjpopmohbmaa.Mem
open Go.RowKit Go.Proofs.Ytbpgjpopmohbmaa.Nums
set_option linter.unusedVariables false
set_option linter.unusedSimpArgs false
set_option maxRecDepth 100000
set_option maxHeartbeats 2000000
theorem rfree_of (A : Option Addr) (i : Int) (w : World) (h : Calls Try.prog 27 #[.pointer A, .int .i64 i] w fun e w' => e = .returned (.tuple #[zeroT, .bool false]) ∧ Below w.heap.size w w') :
    Calls Try.prog 63 #[.pointer A, .int .i64 i] w fun e w' => e = .returned (.int .i64 15) ∧ Below w.heap.size w w' := by
  unfold zeroT at h
  have H := Lib.hid h
  clear h
  go_enter Try.func63, Try.ntmps63
  go_wp2_with fail
  refine H.out.mono ?_
  rintro e w2 ⟨rfl, hb⟩
  have HB := Lib.hid hb
  clear hb
  go_wp2_with fail
  go_ret
  exact ⟨rfl, bel_trans HB.out (bel_alloc _ _)⟩
def lenAt (w : World) (R : Nat) : Nat := match w.cell? ⟨R, 0, none⟩ with
  | some (.slice _ n _) => n
  | _ => 0
section
variable {w : World} {F : Nat → Prop} {R st c : Nat} {E : List Ent} {A : Option Addr}
theorem ents_take (E : List Ent) (n : Nat) : ents (E.take n) = (ents E).take (n * 8) := by
  by_cases hn : n ≤ E.length
  · have h1 : ents E = ents (E.take n) ++ ents (E.drop n) := by rw [← ents_app, List.take_append_drop]
    have l1 : (ents (E.take n)).length = n * 8 := by rw [ents_len, List.length_take]; omega
    rw [h1, List.take_append_of_le_length (Nat.le_of_eq l1.symm)]
    exact (List.take_of_length_le (Nat.le_of_eq l1)).symm
  · rw [List.take_of_length_le (by omega), List.take_of_length_le (by rw [ents_len]; omega)]
theorem RfA.lenAt (h : RfA w F R E st A c) : Mem.lenAt w R = E.length := by
  unfold Mem.lenAt
  rw [h.blk.cell 0]
  rfl
/-- fewer slots: the slice cut -/
theorem RfA.shrink (h : RfA w F R E st A c) {n : Nat} (hn : n < E.length) : RfA (w.setCell ⟨R, 0, none⟩ (.slice A n c)) F R (E.take n) st A c := by
  have hle := h.le
  obtain ⟨g, cur, hA, hg, hs, ht, hFg⟩ := h.arr hn
  have hRg : R ≠ g := Blk.ne_ h.blk hg (by decide)
  have ho : Only R w (w.setCell ⟨R, 0, none⟩ (.slice A n c)) := (Only.refl R w).set_ _ _
  have hl : (E.take n).length = n := by rw [List.length_take]; omega
  refine ⟨?_, h.fr, ?_, ?_, fun i v f u hu => ?_, fun k hk => Nat.lt_of_lt_of_le (h.lt k hk) ho.size⟩
  · rw [hl]
    exact Blk.set_ h.blk 0 (.slice A n c)
  · rw [hl]
    refine ⟨by rw [ents_len, hl], .inr ⟨g, c, cur, by rw [hA], Nat.zero_le _, ho.blk hg (Ne.symm hRg), by omega, hle.2, hs, ?_⟩⟩
    rw [ents_take, ← ht, List.take_take, Nat.min_eq_left (by omega)]
  · rw [hl]
    intro k hk
    refine h.fown k ?_
    rw [hA] at hk ⊢
    exact hk
  · have hu' : E[i]? = some (some (v, f), u) := by
      rw [List.getElem?_take] at hu
      split at hu
      · exact hu
      · cases hu
    obtain ⟨h1, h2⟩ := h.data i v f u hu'
    exact ⟨own_keep h1 fun k hk => ho.block k (h1.lt k hk).2 (fun e => own_blk_ne h1 h.blk (by decide) (by rw [hk, e])), h2⟩
theorem rfree_some (h : RfA w F R E st A c) (j : Nat) (v : Ver) (f : Nat) (u : Value) (he : E[j]? = some (some (v, f), u)) :
    Calls Try.prog 63 #[.pointer (some ⟨R, 0, none⟩), .int .i64 j] w fun e w' => e = .returned (.int .i64 0) ∧ ∃ k, IsTrim ((E.map Prod.fst).set j none) k ∧ RfA w' F R ((E.set j (none, .slice none 0 0)).take k) st A c ∧ Turn F w w' := by
  have CG := Lib.hid (rget_some h j v f _ he)
  unfold tupV at CG
  have H := Lib.hid h
  have HE := Lib.hid he
  have hjl : j < E.length := (List.getElem?_eq_some_iff.1 he).1
  obtain ⟨g, cur, rfl, _, _, _, hFg⟩ := h.arr hjl
  have hFR := h.fr
  have hjl' : (j : Int) < E.length := by omega
  have hle := h.le
  unfold maxLen at hle
  obtain ⟨Au, cu, rfl, hsl⟩ := Sl.of_own (h.data j v f u he).1
  clear h he hsl
  go_enter Try.func63, Try.ntmps63
  go_wp2_with fail
  refine CG.out.mono ?_
  rintro e w3 ⟨rfl, hb3⟩
  obtain ⟨w4, hw4⟩ : ∃ w4, w3.alloc (.cells #[.int .u64 v.r, .int .u64 v.a, .int .u64 v.b, .int .i64 ((v.p : Int) - 1), .int .i64 ((v.s : Int) - 1), .slice Au v.d.length cu] 33) = w4 := ⟨_, rfl⟩
  have HB4 : Hid (Below w.heap.size w w4) := Lib.hid (by rw [← hw4]; exact bel_trans hb3 (bel_alloc _ _))
  have H4 := Lib.hid (H.out.below HB4.out)
  have HW4 := Lib.hid hw4
  clear hw4 hb3
  obtain ⟨o0, o1, o2, o3, o4, o5, o6, o7⟩ := H4.out.full8 HE.out rfl
  rw [← HW4.out] at o0 o1 o2 o3 o4 o5 o6 o7
  have x0 := H4.out.blk.cell 0
  have x1 := H4.out.blk.cell 1
  rw [← HW4.out] at x0 x1
  have z0 := H4.out.frozen hjl rfl (j * 8)
  have z1 := H4.out.frozen hjl rfl (j * 8 + 1)
  have z2 := H4.out.frozen hjl rfl (j * 8 + 2)
  have z3 := H4.out.frozen hjl rfl (j * 8 + 3)
  have z4 := H4.out.frozen hjl rfl (j * 8 + 4)
  have z5 := H4.out.frozen hjl rfl (j * 8 + 5)
  have z6 := H4.out.frozen hjl rfl (j * 8 + 6)
  have z7 := H4.out.frozen hjl rfl (j * 8 + 7)
  rw [← HW4.out] at z0 z1 z2 z3 z4 z5 z6 z7
  go_wp2_with fail
  clear o0 o1 o2 o3 o4 o5 o6 o7 z0 z1 z2 z3 z4 z5 z6 z7 x0 x1
  obtain ⟨E1, hE1⟩ : ∃ E1, E.set j (none, .slice none 0 0) = E1 := ⟨_, rfl⟩
  have HE1 := Lib.hid hE1
  have hE1l : E1.length = E.length := by rw [← hE1, List.length_set]
  have HM1 : Hid (E1.map Prod.fst = (E.map Prod.fst).set j none) := Lib.hid (by rw [← hE1, List.map_set])
  have hput : RfA (putN w4 g (j * 8) (entV (none, .slice none 0 0))) F R E1 st (some ⟨g, 0, none⟩) c := by
    rw [← hE1]
    exact H4.out.putE hjl rfl (fun v f u hh => by injection hh with h1 h2; cases h1)
  have htur : Turn F w (putN w4 g (j * 8) (entV (none, .slice none 0 0))) := (Turn.of_below HB4.out).trans (Turn.of_only (putN_only g _ _ _) hFg)
  rw [HW4.out]
  obtain ⟨w5, hw5⟩ : ∃ w5, putN w4 g (j * 8) (entV (none, .slice none 0 0)) = w5 := ⟨_, rfl⟩
  rw [hw5] at hput htur
  have H5 := Lib.hid hput
  have HT5 := Lib.hid htur
  have hw5' : (((((((w4.setCell ⟨g, j * 8, none⟩ (.bool false)).setCell ⟨g, j * 8 + 1, none⟩ (.int .u64 0)).setCell ⟨g, j * 8 + 2, none⟩ (.int .u64 0)).setCell ⟨g, j * 8 + 3, none⟩ (.int .u64 0)).setCell ⟨g, j * 8 + 4, none⟩ (.int .i64 0)).setCell ⟨g, j * 8 + 5, none⟩ (.int .i64 0)).setCell ⟨g, j * 8 + 6, none⟩ (.slice none 0 0)).setCell ⟨g, j * 8 + 7, none⟩ (.int .i64 0) = w5 := hw5
  rw [hw5']
  clear hw5 hw5' hput htur hE1
  go_loopw [] (fun wr => ∃ k : Nat, k ≤ E1.length ∧ RfA wr F R (E1.take k) st (some ⟨g, 0, none⟩) c ∧ (∀ i, k ≤ i → i < E1.length → (E1.map Prod.fst)[i]? = some none) ∧ Turn F w wr) (fun wr => lenAt wr R)
  case atStart => exact ⟨E1.length, Nat.le_refl _, by rw [List.take_of_length_le (Nat.le_refl _)]; exact H5.out, fun i h1 h2 => absurd h2 (by omega), HT5.out⟩
  case round =>
    obtain ⟨k, hk, hR, hall, ht⟩ := hrel
    have HR := Lib.hid hR
    have HA := Lib.hid hall
    have HT := Lib.hid ht
    have hkl : (E1.take k).length = k := by rw [List.length_take]; omega
    have HKL := Lib.hid hkl
    have x0 := hR.blk.cell 0
    have x1 := hR.blk.cell 1
    rw [hkl] at x0 x1
    have z0 := hR.blk.frozen 0
    clear hR hall ht H5 HT5 H4 CG
    have HFIN : Hid (∀ (kk : Nat) (wf : World), kk ≤ E1.length → RfA wf F R (E1.take kk) st (some ⟨g, 0, none⟩) c → (∀ i, kk ≤ i → i < E1.length → (E1.map Prod.fst)[i]? = some none) → (0 < kk → ∃ x, (E1.map Prod.fst)[kk - 1]? = some (some x)) → Turn F w wf → ∃ q, IsTrim ((E.map Prod.fst).set j none) q ∧ RfA wf F R ((E.set j (none, .slice none 0 0)).take q) st (some ⟨g, 0, none⟩) c ∧ Turn F w wf) := Lib.hid (fun kk wf q1 q2 q3 q4 q5 => ⟨kk, by rw [← HM1.out]; exact ⟨by rw [List.length_map]; exact q1, fun i i1 i2 => q3 i i1 (by rw [List.length_map] at i2; exact i2), q4⟩, by rw [HE1.out]; exact q2, q5⟩)
    cases k with
    | zero =>
      go_wp2_with fail
      go_quiet (fail)
      go_wp2_with fail
      go_ret
      exact ⟨rfl, HFIN.out 0 _ (by omega) (HR.out.drewN _) HA.out (fun h => absurd h (by omega)) (HT.out.drewN _)⟩
    | succ k =>
      have hkE : k < E1.length := by omega
      obtain ⟨⟨o, u⟩, hek⟩ : ∃ e, E1[k]? = some e := ⟨_, List.getElem?_eq_getElem hkE⟩
      have hek2 : (E1.take (k + 1))[k]? = some (o, u) := by rw [List.getElem?_take, if_pos (by omega)]; exact hek
      have hmk := map_at hek
      have HMK := Lib.hid hmk
      have k1 : (0 : Int) < (k : Int) + 1 := by omega
      have k2 : (k : Int) < (k : Int) + 1 := by omega
      have k3 : (k : Int) + 1 ≤ c := by have := HR.out.le; rw [hkl] at this; omega
      have k4 : ((k : Int) + 1 - 1) = k := by omega
      have k5 : ¬ c = 0 := by omega
      have k6 : (k : Int) ≤ c := by omega
      have k7 : (0 : Int) ≤ k := by omega
      have HSH := Lib.hid (HR.out.shrink (n := k) (by rw [hkl]; omega))
      cases o with
      | none =>
        obtain ⟨y0, y1, y2, y3, y4, y5, y6, y7⟩ := HR.out.free8 hek2 rfl
        clear y1 y2 y3 y4 y5 y6 y7 hmk hek hek2
        go_wp2_with fail
        go_quiet (fail)
        go_wp2_with fail
        go_region
        all_goals (go_wp2_with fail)
        all_goals go_roundw
        all_goals first
          | exact ⟨k, by omega, by
              have h1 := HSH.out
              rw [List.take_take, Nat.min_eq_left (by omega)] at h1
              exact h1.keep (fun _ _ => rfl) (Nat.le_refl _), fun i i1 i2 => by
              by_cases hik : i = k
              · subst hik; exact HMK.out
              · exact HA.out i (by omega) i2, (HT.out.trans (Turn.of_only ((Only.refl R wr).set_ 0 (.slice (some ⟨g, 0, none⟩) k c)) hFR)).drewN _⟩
          | (have a := HSH.out.lenAt
             have b := HR.out.lenAt
             rw [HKL.out] at b
             rw [List.length_take, HKL.out] at a
             show lenAt (wr.setCell ⟨R, 0, none⟩ (.slice (some ⟨g, 0, none⟩) k c)) R < lenAt wr R
             rw [a, b]
             omega)
      | some x =>
        obtain ⟨xv, xf⟩ := x
        obtain ⟨y0, y1, y2, y3, y4, y5, y6, y7⟩ := HR.out.full8 hek2 rfl
        clear y1 y2 y3 y4 y5 y6 y7 hmk hek hek2
        go_wp2_with fail
        go_quiet (fail)
        go_wp2_with fail
        go_ret
        exact ⟨rfl, HFIN.out (k + 1) _ hk (HR.out.drewN _) HA.out (fun _ => ⟨_, HMK.out⟩) (HT.out.drewN _)⟩
end
end Go.Proofs.Ytbpgjpopmohbmaa.Mem
