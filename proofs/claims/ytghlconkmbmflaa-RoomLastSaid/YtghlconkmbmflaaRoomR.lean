/- lapidaryref06: Set, Find, Get; all calls of nil maps. -/
import Derived.Test.YtghlconkmbmflaaRoomS
namespace Go.Proofs.Ytghlconkmbmflaa.Room
open Go.RowKit Go.Proofs.Ytghlconkmbmflaa.Nums Go.Proofs.Ytghlconkmbmflaa.Mem
set_option linter.unusedVariables false
set_option linter.unusedSimpArgs false
set_option maxRecDepth 100000
theorem own_emptyI (w : World) : OwnI (w.alloc (.cells #[] 3)) w.heap.size (.slice (some ⟨w.heap.size, 0, none⟩) 0 0) 0 [] := World.ownsRow_lit w #[] 0 (Nat.le_refl _) (by unfold maxLen; omega) rfl
theorem own_less {w : World} {B B' n : Nat} {v : Value} {xs : List Value} (h : OwnI w B' v n xs) (hB : B ≤ B') : OwnI w B v n xs := by
  refine ⟨h.1, ?_⟩
  rcases h.2 with h0 | ⟨g, cap, cur, rfl, hb, rest⟩
  · exact .inl h0
  · exact .inr ⟨g, cap, cur, rfl, Nat.le_trans hB hb, rest⟩
theorem far_bel {w w2 : World} {P n : Nat} {v v2 : Value} {xs : List Value} (hb : Below w.heap.size w w2) (ho : OwnI w2 w.heap.size v2 (n + 1) xs) : Far w w2 P v v2 := by
  obtain ⟨g, cap, hv, hg, _⟩ := World.ownsRow.form ho (by omega)
  exact ⟨hb.os, hb.tape, hb.output, hb.size, fun k hk _ _ => hb.block k hk, .inr ⟨g, by rw [hv]; rfl, hg⟩⟩
theorem bel_app {w w1 : World} {o : Obj} {v1 : Value} {n c : Nat} (hg : Kin (w.alloc o) w1 (.slice (some ⟨w.heap.size, 0, none⟩) n c) v1) : Below w.heap.size w w1 :=
  (bel_alloc w o).trans (hg.below (by rw [size_alloc]; omega) (fun k hk => by simp [Value.ownBlock] at hk; omega))
theorem rset_nil (w : World) (p r : Int) : Calls Try.prog 10 #[.pointer none, .int .i64 p, .int .i64 r] w fun e w' => e = .returned (.int .i64 15) ∧ w = w' := by
  go_enter Try.func10, Try.ntmps10
  go_wp2_with fail
  go_ret
  exact ⟨rfl, rfl⟩
theorem pages_nil (w : World) : Calls Try.prog 15 #[.pointer none] w fun e w' => e = .returned (.int .i64 0) ∧ w = w' := by
  go_enter Try.func15, Try.ntmps15
  go_wp2_with fail
  go_ret
  exact ⟨rfl, rfl⟩
theorem get_nil (w : World) (p : Int) : Calls Try.prog 13 #[.pointer none, .int .i64 p] w fun e w' => e = .returned (.int .i64 (-1)) ∧ w = w' := by
  by_cases h0 : p < 0
  · go_enter Try.func13, Try.ntmps13
    go_wp2_with fail
    go_ret
    exact ⟨rfl, rfl⟩
  · have h1 : (0 : Int) ≤ p := by omega
    go_enter Try.func13, Try.ntmps13
    go_wp2_with fail
    refine (pages_nil _).mono ?_
    rintro e w' ⟨rfl, rfl⟩
    go_wp2_with fail
    go_ret
    exact ⟨rfl, rfl⟩
theorem rget_nil (w : World) (p : Int) : Calls Try.prog 14 #[.pointer none, .int .i64 p] w fun e w' => e = .returned (.int .i64 (-1)) ∧ w = w' := by
  go_enter Try.func14, Try.ntmps14
  go_wp2_with fail
  go_ret
  exact ⟨rfl, rfl⟩
theorem find_nil (w : World) (p : Int) : Calls Try.prog 11 #[.pointer none, .int .i64 p] w fun e w' => e = .returned (.tuple #[.int .i64 0, .bool false]) ∧ w = w' := by
  rcases (show p < 0 ∨ ¬ p < 0 by omega) with h | h
  all_goals
    go_enter Try.func11, Try.ntmps11
    go_wp2_with fail
    refine (pages_nil _).mono ?_
    rintro e w' ⟨rfl, rfl⟩
    go_wp2_with fail
    go_loop [11] (fun i => i = .int .i64 0) (fun i => 0)
    case atStart => rfl
    case round =>
      subst hrel
      go_wp2_with fail
      go_ret2
      exact ⟨rfl, rfl⟩
theorem rfind_nil (w : World) (p : Int) : Calls Try.prog 12 #[.pointer none, .int .i64 p] w fun e w' => e = .returned (.tuple #[.int .i64 0, .bool false]) ∧ w = w' := by
  go_enter Try.func12, Try.ntmps12
  go_wp2_with fail
  go_ret2
  exact ⟨rfl, rfl⟩
theorem rget_any {w : World} {base P : Nat} {A : Option Addr} {c : Nat} {L : List Int} (h : MapAt w base 29 P A c L) (p : Int) :
    Calls Try.prog 14 #[.pointer (some ⟨P, 0, none⟩), .int .i64 p] w fun e w' => e = .returned (.int .i64 (getR L p)) ∧ w = w' := by
  have hc := h.cell
  have hle := h.le
  unfold maxLen at hle
  by_cases h0 : p < 0
  · have HG : Hid (getR L p = -1) := Lib.hid (if_pos (.inl h0))
    clear h
    go_enter Try.func14, Try.ntmps14
    go_wp2_with fail
    go_ret
    exact ⟨by rw [HG.out]; rfl, rfl⟩
  · obtain ⟨k, rfl⟩ : ∃ k : Nat, p = k := ⟨p.toNat, by omega⟩
    by_cases hk : k < L.length
    · obtain ⟨g, rfl, x0, _⟩ := h.form hk
      have HG : Hid (getR L k = L[k]) := Lib.hid (by unfold getR; rw [if_neg (by omega), Int.toNat_natCast, List.getD_eq_getElem?_getD, List.getElem?_eq_getElem hk]; rfl)
      have hk1 : ¬ (L.length : Int) ≤ k := by omega
      obtain ⟨x, hx⟩ : ∃ x, L[k] = x := ⟨_, rfl⟩
      rw [hx] at HG x0
      clear h hx h0
      go_enter Try.func14, Try.ntmps14
      go_wp2_with fail
      go_ret
      exact ⟨by rw [HG.out]; rfl, rfl⟩
    · have HG : Hid (getR L k = -1) := Lib.hid (if_pos (.inr (by omega)))
      have hk1 : (L.length : Int) ≤ k := by omega
      clear h h0
      go_enter Try.func14, Try.ntmps14
      go_wp2_with fail
      go_ret
      exact ⟨by rw [HG.out]; rfl, rfl⟩
theorem rfind_any {w : World} {base P : Nat} {A : Option Addr} {c : Nat} {L : List Int} (h : MapAt w base 29 P A c L) (need : Int) :
    Calls Try.prog 12 #[.pointer (some ⟨P, 0, none⟩), .int .i64 need] w fun e w' => e = .returned (.tuple #[.int .i64 (findR L need).1, .bool (findR L need).2]) ∧ w = w' := by
  have H := Lib.hid h
  have hc := h.cell
  have hle := h.le
  unfold maxLen at hle
  obtain ⟨m, hm'⟩ : ∃ m, max need 0 = m := ⟨_, rfl⟩
  have HF : Hid (findR L need = findAt m L 0) := Lib.hid (by unfold findR; rw [hm'])
  have HM := Lib.hid hm'
  clear h hm'
  go_enter Try.func12, Try.ntmps12
  go_wp2_with fail
  go_loop [15] (fun i => ∃ k : Nat, k ≤ L.length ∧ i = .int .i64 k ∧ findAt m L 0 = findAt m (L.drop k) k) (fun i => L.length - (intOf i).toNat)
  case atStart => exact ⟨0, by omega, rfl, rfl⟩
  case round =>
    obtain ⟨k, hk, rfl, hfk⟩ := hrel
    have HK := Lib.hid hfk
    clear hfk
    by_cases hlt : k < L.length
    · obtain ⟨g, rfl, x0, _⟩ := H.out.form hlt
      obtain ⟨x, hx⟩ : ∃ x, L[k] = x := ⟨_, rfl⟩
      have HX := Lib.hid (findAt_step (m := m) (show L[k]? = some x by rw [List.getElem?_eq_getElem hlt, hx]))
      rw [hx] at x0
      clear hx
      have hlt' : (k : Int) < L.length := by omega
      by_cases h1 : need ≤ x
      · by_cases h2 : 0 ≤ x
        · have HY : Hid (findR L need = ((k : Int), true)) := Lib.hid (by rw [HF.out, HK.out, HX.out, if_pos (by rw [← HM.out]; omega)])
          go_wp2_with fail
          go_ret2
          exact ⟨by rw [HY.out]; rfl, rfl⟩
        · have HY : Hid (findAt m L 0 = findAt m (L.drop (k + 1)) (k + 1)) := Lib.hid (by rw [HK.out, HX.out, if_neg (by rw [← HM.out]; omega)])
          go_wp2_with fail
          go_round
          case rel => exact ⟨k + 1, by omega, by go_num, HY.out⟩
          case measure => simp [intOf]; omega
      · have HY : Hid (findAt m L 0 = findAt m (L.drop (k + 1)) (k + 1)) := Lib.hid (by rw [HK.out, HX.out, if_neg (by rw [← HM.out]; omega)])
        go_wp2_with fail
        go_round
        case rel => exact ⟨k + 1, by omega, by go_num, HY.out⟩
        case measure => simp [intOf]; omega
    · obtain rfl : k = L.length := by omega
      have HY : Hid (findR L need = (0, false)) := Lib.hid (by rw [HF.out, HK.out, List.drop_length]; rfl)
      go_wp2_with fail
      go_ret2
      exact ⟨by rw [HY.out]; rfl, rfl⟩
set_option maxHeartbeats 2000000 in
theorem rset_any {w : World} {base P : Nat} {A : Option Addr} {c : Nat} {L : List Int} (h : MapAt w base 29 P A c L) (hL : L.length ≤ 256) (hB : base ≤ w.heap.size) (p r : Int) :
    Calls Try.prog 10 #[.pointer (some ⟨P, 0, none⟩), .int .i64 p, .int .i64 r] w (SPost w base 29 P A c L p r) := by
  have H := Lib.hid h
  have hc := h.cell
  have hf := h.frozen
  by_cases h0 : p < 0
  · have HS : Hid (setR L p r = (1, L)) := Lib.hid (if_pos (.inl h0))
    clear h
    go_enter Try.func10, Try.ntmps10
    go_wp2_with fail
    go_ret
    exact spost_same H.out HS.out
  by_cases h1 : 256 ≤ p
  · have HS : Hid (setR L p r = (1, L)) := Lib.hid (if_pos (.inr h1))
    have h0' : decide (p < 0) = false := by simpa using h0
    have h1' : 255 < p := by omega
    clear h
    go_enter Try.func10, Try.ntmps10
    go_wp2_with fail
    go_ret
    exact spost_same H.out HS.out
  obtain ⟨k, rfl⟩ : ∃ k : Nat, p = k := ⟨p.toNat, by omega⟩
  by_cases h2 : L.length < k
  · have h2' : (L.length : Int) < k := by omega
    have HS : Hid (setR L k r = (3, L)) := Lib.hid (by unfold setR; rw [if_neg (by omega), if_pos h2'])
    clear h h0
    go_enter Try.func10, Try.ntmps10
    go_wp2_with fail
    go_ret
    exact spost_same H.out HS.out
  rcases (show (r < -1 ∧ min (max r (-1)) 512 = -1) ∨ (¬ r < -1 ∧ 512 < r ∧ min (max r (-1)) 512 = 512) ∨ (¬ r < -1 ∧ ¬ 512 < r ∧ min (max r (-1)) 512 = r) by omega) with ⟨r1, hx⟩ | ⟨r1, r2, hx⟩ | ⟨r1, r2, hx⟩
  all_goals
    obtain ⟨x, hx'⟩ : ∃ x, min (max r (-1)) 512 = x := ⟨_, rfl⟩
    have HX := Lib.hid (hx.symm.trans hx')
    clear hx
    by_cases h3 : k = L.length
    · subst h3
      have HS : Hid (setR L L.length r = (0, L ++ [x])) := Lib.hid (by unfold setR; rw [if_neg (by omega), if_neg (by omega), if_pos rfl]; show (0, L ++ [min (max r (-1)) 512]) = _; rw [hx'])
      obtain ⟨A0, c0, hv0, hs0⟩ := Sl.of_own h.own
      injection hv0 with e1 _ e2
      subst e1 e2
      have HSL := Lib.hid hs0
      have hc' : (w.alloc (.cells #[] 3)).cell? ⟨P, 0, none⟩ = some (.slice A L.length c) := (h.blk.alloc _).cell 0
      clear h h0 h2 hx' hs0
      go_enter Try.func10, Try.ntmps10
      go_wp2_with (first
        | (at_builtin; refine wpl_app_i rfl (.tmp 34) (.tmp 38) rfl w.heap.size _ 0 [] rfl (own_emptyI w) _ _ L.length (ints L) rfl ((HSL.out.on (bel_alloc _ _)).lies) (ints_one' L) (by omega) (by rw [size_alloc]; omega) ?_; intro v1 w1 hown1 hg1; have hb1 : Below w.heap.size w w1 := bel_app hg1; have hz1 := hb1.size)
        | (at_builtin; refine wpl_app_i rfl (.tmp 39) (.tmp 41) rfl w.heap.size _ _ _ rfl (hown1.alloc _) _ _ 1 _ rfl (lies_lit _ _ _ 1 1 rfl) (one1 _ _) (by omega) (by rw [size_alloc]; omega) ?_; intro v2 w2 hown2 hg2; have hb2 : Below w.heap.size w w2 := (hb1.alloc (by omega) _).trans (hg2.below (by rw [size_alloc]; omega) (fun k hk => (World.ownsRow.lt hown1 k hk).1)); obtain ⟨A1, c1, hv1, _⟩ := Sl.of_own hown2; subst hv1; have hbP : Blk w2 P 29 _ := H.out.blk.below hb2 H.out.blk.lt; have hc1 := hbP.cell 0; have hf1 := hbP.frozen 0))
      have hown3 : OwnI w2 w.heap.size (.slice A1 (0 + L.length + 1) c1) (L.length + 1) (ints (L ++ [x])) := own_eqI hown2 (by omega) (by rw [ints_app, ← HX.out]; rfl)
      have hown4 : OwnI w2 base (.slice A1 (0 + L.length + 1) c1) (L ++ [x]).length (ints (L ++ [x])) := own_less (own_eqI hown3 (by simp) rfl) hB
      obtain ⟨A', c', hv, hM, hF⟩ := put_done H.out (by decide) hown4 hbP (far_bel hb2 hown3)
      go_ret
      unfold SPost
      rw [HS.out]
      rw [Nat.zero_add] at hv hM hF
      have hl : (L ++ [x]).length = L.length + 1 := by simp
      rw [hl] at hv
      injection hv with e1 _ e2
      subst e1 e2
      refine ⟨rfl, A1, c1, hM, ?_⟩
      show Far _ _ _ _ (.slice A1 (L ++ [x]).length c1)
      rw [hl]
      exact hF
    · have hk : k < L.length := by omega
      obtain ⟨g, hA, y0, yf⟩ := h.form hk
      have HS : Hid (setR L k r = (0, L.set k x)) := Lib.hid (by unfold setR; rw [if_neg (by omega), if_neg (by omega), if_neg (by omega), Int.toNat_natCast]; show (0, L.set k (min (max r (-1)) 512)) = _; rw [hx'])
      obtain ⟨hM, hF⟩ := at_done (k := k) h (by decide) hA x
      rw [← HX.out] at hM hF HS
      have HM := Lib.hid hM
      have HFF := Lib.hid hF
      have hne : ((k : Int) == (L.length : Int)) = false := by rw [beq_eq_false_iff_ne]; omega
      have hle := h.le
      unfold maxLen at hle
      subst hA
      clear h h0 h2 h3 hx' hM hF
      go_enter Try.func10, Try.ntmps10
      go_wp2_with fail
      go_ret
      unfold SPost
      rw [HS.out]
      exact ⟨rfl, _, c, HM.out, HFF.out⟩
end Go.Proofs.Ytghlconkmbmflaa.Room
