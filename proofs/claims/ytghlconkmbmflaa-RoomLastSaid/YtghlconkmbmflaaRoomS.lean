/- package room: Set. -/
import Derived.Test.YtghlconkmbmflaaRoomA
namespace Go.Proofs.Ytghlconkmbmflaa.Room
open Go.RowKit Go.Proofs.Ytghlconkmbmflaa.Nums Go.Proofs.Ytghlconkmbmflaa.Mem
set_option linter.unusedVariables false
set_option linter.unusedSimpArgs false
set_option maxRecDepth 100000
section
variable {w w1 : World} {base P : Nat} {T : TypeId} {A : Option Addr} {c : Nat} {L L1 : List Int}
theorem far_kin {o : Obj} {v v1 : Value} (hg : Kin (w.alloc o) w1 v v1) : Far w w1 P v v1 := by
  have hs : w.heap.size ≤ w1.heap.size := by have := hg.size; rw [size_alloc] at this; omega
  refine ⟨hg.1.os, hg.1.tape, hg.1.output, hs, fun k hk _ hv => ?_, ?_⟩
  · exact (hg.1.block k (by rw [size_alloc]; omega) (Ne.symm hv)).trans (Below.heap_alloc w o k hk)
  · rcases hg.2 with e | ⟨g, e, h⟩
    · exact .inl e
    · exact .inr ⟨g, e, by rw [size_alloc] at h; omega⟩
theorem put_done (h : MapAt w base T P A c L) (hT : 3 ≠ T) {v1 : Value} (hown1 : OwnI w1 base v1 L1.length (ints L1)) (hb1 : Blk w1 P T #[.slice A L.length c]) (hF : Far w w1 P (.slice A L.length c) v1) :
    ∃ A' c', v1 = .slice A' L1.length c' ∧ MapAt (w1.setCell ⟨P, 0, none⟩ v1) base T P A' c' L1 ∧ Far w (w1.setCell ⟨P, 0, none⟩ v1) P (.slice A L.length c) v1 := by
  obtain ⟨A', c', rfl, _⟩ := Sl.of_own hown1
  refine ⟨A', c', rfl, ⟨Blk.set_ hb1 0 _, own_keep hown1 fun g hg => ?_, h.ge⟩, ?_⟩
  · refine Below.heap_setCell w1 _ _ g ?_
    intro e
    exact own_blk_ne hown1 hb1 hT (by rw [hg, e])
  · refine ⟨hF.os, hF.tape, hF.output, ?_, fun k hk hP hv => ?_, hF.lies⟩
    · have : (w1.setCell ⟨P, 0, none⟩ (.slice A' L1.length c')).heap.size = w1.heap.size := by simp [World.setCell]
      rw [this]
      exact hF.size
    · exact (Below.heap_setCell w1 _ _ k hP).trans (hF.block k hk hP hv)
theorem at_done (h : MapAt w base T P A c L) (hT : 3 ≠ T) {g k : Nat} (hA : A = some ⟨g, 0, none⟩) (x : Int) :
    MapAt (w.setCell ⟨g, k, none⟩ (.int .i64 x)) base T P A c (L.set k x) ∧ Far w (w.setCell ⟨g, k, none⟩ (.int .i64 x)) P (.slice A L.length c) (.slice A (L.set k x).length c) := by
  subst hA
  have hst := World.ownsRow.stored h.own k (.int .i64 x)
  have hgP : P ≠ g := fun e => own_blk_ne h.own h.blk hT (by rw [e]; rfl)
  have hl : (L.set k x).length = L.length := List.length_set
  refine ⟨⟨?_, ?_, h.ge⟩, ?_⟩
  · rw [hl]
    exact h.blk.far hgP _
  · have e : ints (L.set k x) = (ints L).set k (.int .i64 x) := by unfold ints; rw [List.map_set]
    rw [hl, e]
    exact hst.1
  · rw [hl]
    refine ⟨hst.2.os, hst.2.tape, hst.2.output, hst.2.size, fun j hj _ hv => hst.2.block j hj (Ne.symm hv), .inl rfl⟩
end
def SPost (w : World) (base : Nat) (T : TypeId) (P : Nat) (A : Option Addr) (c : Nat) (L : List Int) (p r : Int) (e : Ending) (w' : World) : Prop :=
  e = .returned (.int .i64 (setR L p r).1) ∧ ∃ A' c', MapAt w' base T P A' c' (setR L p r).2 ∧ Far w w' P (.slice A L.length c) (.slice A' (setR L p r).2.length c')
theorem spost_same {w : World} {base P : Nat} {T : TypeId} {A : Option Addr} {c : Nat} {L : List Int} (h : MapAt w base T P A c L) {p r x : Int} (hx : setR L p r = (x, L)) : SPost w base T P A c L p r (.returned (.int .i64 x)) w := by
  unfold SPost
  rw [hx]
  exact ⟨rfl, A, c, h, Far.refl _ _ _ _ rfl⟩
theorem set_nil (w : World) (p r : Int) : Calls Try.prog 9 #[.pointer none, .int .i64 p, .int .i64 r] w fun e w' => e = .returned (.int .i64 15) ∧ w = w' := by
  go_enter Try.func9, Try.ntmps9
  go_wp2_with fail
  go_ret
  exact ⟨rfl, rfl⟩
theorem set_any {w : World} {base P : Nat} {A : Option Addr} {c : Nat} {L : List Int} (h : MapAt w base 49 P A c L) (hL : L.length ≤ 256) (hB : base ≤ w.heap.size) (p r : Int) :
    Calls Try.prog 9 #[.pointer (some ⟨P, 0, none⟩), .int .i64 p, .int .i64 r] w (SPost w base 49 P A c L p r) := by
  have H := Lib.hid h
  have hc := h.cell
  have hf := h.frozen
  by_cases h0 : p < 0
  · have HS : Hid (setR L p r = (1, L)) := Lib.hid (if_pos (.inl h0))
    clear h
    go_enter Try.func9, Try.ntmps9
    go_wp2_with fail
    go_ret
    exact spost_same H.out HS.out
  by_cases h1 : 256 ≤ p
  · have HS : Hid (setR L p r = (1, L)) := Lib.hid (if_pos (.inr h1))
    have h0' : decide (p < 0) = false := by simpa using h0
    clear h
    go_enter Try.func9, Try.ntmps9
    go_wp2_with fail
    go_ret
    exact spost_same H.out HS.out
  obtain ⟨k, rfl⟩ : ∃ k : Nat, p = k := ⟨p.toNat, by omega⟩
  by_cases h2 : L.length < k
  · have h2' : (L.length : Int) < k := by omega
    have HS : Hid (setR L k r = (3, L)) := Lib.hid (by unfold setR; rw [if_neg (by omega), if_pos h2'])
    clear h h0
    go_enter Try.func9, Try.ntmps9
    go_wp2_with fail
    go_ret
    exact spost_same H.out HS.out
  rcases (show (r < -1 ∧ min (max r (-1)) 512 = -1) ∨ (¬ r < -1 ∧ 512 < r ∧ min (max r (-1)) 512 = 512) ∨ (¬ r < -1 ∧ ¬ 512 < r ∧ min (max r (-1)) 512 = r) by omega) with ⟨r1, hx⟩ | ⟨r1, r2, hx⟩ | ⟨r1, r2, hx⟩
  all_goals
    obtain ⟨x, hx'⟩ : ∃ x, min (max r (-1)) 512 = x := ⟨_, rfl⟩
    have HX := Lib.hid (hx.symm.trans hx')
    clear hx
    by_cases h3 : k = L.length
    · subst h3
      have HS : Hid (setR L L.length r = (0, L ++ [x])) := Lib.hid (by unfold setR; rw [if_neg (by omega), if_neg (by omega), if_pos rfl]; show (0, L ++ [min (max r (-1)) 512]) = _; rw [hx'])
      have HO := Lib.hid h.own
      clear h h0 h2 hx'
      go_enter Try.func9, Try.ntmps9
      go_wp2_with (at_builtin; go_loud (refine wpl_app_i rfl (.tmp 39) (.tmp 41) rfl base _ L.length (ints L) rfl (HO.out.alloc _) _ _ 1 _ rfl (lies_lit _ _ _ 1 1 rfl) (one1 _ _) (by omega) (by rw [size_alloc]; omega) ?_; intro v1 w1 hown1 hg1; obtain ⟨A1, c1, hv1, _⟩ := Sl.of_own hown1; subst hv1; have hb1 : Blk w1 P 49 _ := (hg1.1.block P (H.out.blk.alloc _).lt (Ne.symm (own_blk_ne H.out.own H.out.blk (by decide)))).trans (H.out.blk.alloc _); have hc1 := hb1.cell 0; have hf1 := hb1.frozen 0))
      have hown2 : OwnI w1 base (.slice A1 (L.length + 1) c1) (L ++ [x]).length (ints (L ++ [x])) := own_eqI hown1 (by simp) (by rw [ints_app, ← HX.out]; rfl)
      obtain ⟨A', c', hv, hM, hF⟩ := put_done H.out (by decide) hown2 hb1 (far_kin hg1)
      go_ret
      unfold SPost
      rw [HS.out]
      have hl : (L ++ [x]).length = L.length + 1 := by simp
      rw [hl] at hv
      injection hv with e1 _ e2
      subst e1 e2
      refine ⟨rfl, A1, c1, hM, ?_⟩
      show Far _ _ _ _ (.slice A1 (L ++ [x]).length c1)
      rw [hl]
      exact hF
    · have hk : k < L.length := by omega
      obtain ⟨g, hA, y0, yf⟩ := h.form hk
      have HS : Hid (setR L k r = (0, L.set k x)) := Lib.hid (by unfold setR; rw [if_neg (by omega), if_neg (by omega), if_neg (by omega), Int.toNat_natCast]; show (0, L.set k (min (max r (-1)) 512)) = _; rw [hx'])
      obtain ⟨hM, hF⟩ := at_done (k := k) h (by decide) hA x
      rw [← HX.out] at hM hF HS
      have HM := Lib.hid hM
      have HFF := Lib.hid hF
      have hne : ((k : Int) == (L.length : Int)) = false := by rw [beq_eq_false_iff_ne]; omega
      have hle := h.le
      unfold maxLen at hle
      subst hA
      clear h h0 h2 h3 hx' hM hF
      go_enter Try.func9, Try.ntmps9
      go_wp2_with fail
      go_ret
      unfold SPost
      rw [HS.out]
      exact ⟨rfl, _, c, HM.out, HFF.out⟩
end Go.Proofs.Ytghlconkmbmflaa.Room
