/- clog.Log: Commit, Abort. -/
import Derived.Test.YtnpmjljpaaaljaaClogE
namespace Go.Proofs.Ytnpmjljpaaaljaa.Clg
open Go.ChangeMaps Go.MapKept Go.RowKit Go.Proofs.Ytnpmjljpaaaljaa.Nums Go.Proofs.Ytnpmjljpaaaljaa.Mem
set_option linter.unusedVariables false
set_option linter.unusedSimpArgs false
set_option maxRecDepth 100000
section
variable {w w' : World} {F G : Nat → Prop} {P f c M k : Nat} {S : List Nat} {A : Option Addr} {D : DataW Unit}
def CmP (w : World) (F : Nat → Prop) (P f : Nat) (S : List Nat) (x s : Nat) (e : Ending) (w' : World) : Prop := e = .returned (.int .i64 (endE f S x)) ∧ Goes w F P f (endS f S x s) w'
theorem commit_any (h : LF w F P f S) (x : Nat) : Calls Try.prog 27 #[.pointer (some ⟨P, 0, none⟩), .int .u64 (x : Int)] w (CmP w F P f S x 2) := by
  by_cases hx : stOf f S x = 1
  · have CE := Lib.hid (end_yes h hx)
    have HE : Hid (endE f S x = 0 ∧ endS f S x 2 = S.set (x - f) 2) := Lib.hid ⟨if_pos hx, if_pos hx⟩
    clear h hx
    go_enter Try.func27, Try.ntmps27
    go_wp2_with fail
    refine CE.out.mono ?_
    rintro e w1 ⟨rfl, hg⟩
    have HG := Lib.hid hg
    clear hg
    go_wp2_with fail
    go_ret
    unfold CmP
    rw [HE.out.1, HE.out.2]
    exact ⟨rfl, HG.out⟩
  · have CE := Lib.hid (end_no h hx)
    have HE : Hid (endE f S x = 15 ∧ endS f S x 2 = S) := Lib.hid ⟨if_neg hx, if_neg hx⟩
    have HG := Lib.hid (goes_refl h)
    clear h hx
    go_enter Try.func27, Try.ntmps27
    go_wp2_with fail
    refine CE.out.mono ?_
    rintro e w1 ⟨rfl, rfl⟩
    go_wp2_with fail
    go_ret
    unfold CmP
    rw [HE.out.1, HE.out.2]
    exact ⟨rfl, HG.out⟩
theorem runs_23 {f : Nat} {S : List Nat} {x : Nat} (h : stOf f S x = 1) : runs f (S.set (x - f) 3) = runs f (S.set (x - f) 2) := by
  obtain ⟨k, hk⟩ := List.mem_iff_getElem?.1 (st_runs.2 h)
  rw [runs_set (by omega) h hk, runs_set (by omega) h hk]
theorem isKeyU (x : Nat) : WideAt.IsKeyLit (.int .u64 (x : Int)) := trivial
theorem turned_turn {w w' : World} {M : Nat} {F : Nat → Prop} (h : w.mapTurned w' M) (hF : F M) : Turn F w w' := by
  have hg := h.grown
  exact ⟨hg.os, hg.tape, hg.output, hg.size, fun k hk hf => hg.block k hk (fun e => by injection e with e; exact hf (e ▸ hF))⟩
theorem turned_size {w w' : World} {M : Nat} (h : w.mapTurned w' M) : w'.heap.size = w.heap.size := by
  obtain ⟨es, clock, es', clock', _, rfl⟩ := h
  simp [setBlock]
theorem turned_goes {w w1 w2 : World} {F : Nat → Prop} {P f c M k x : Nat} {S : List Nat} {A : Option Addr} {D : DataW Unit} (h : LG w1 (New F w w1) P f (S.set (x - f) 2) A c M k D) (hT : Turn F w w1) (hx : stOf f S x = 1)
    (hm : SetD w2 M (k + 1) (D.put (.int .u64 (x : Int)) (.agg []))) (ht : w1.mapTurned w2 M) (hFM : Turn F w w2) : Goes w F P f (S.set (x - f) 3) w2 := by
  have hg := ht.grown
  have hsz := turned_size ht
  have e23 := runs_23 hx
  have hx2 : stOf f (S.set (x - f) 2) x = 2 := by rw [st_set (by rw [hx]; omega), if_pos rfl]
  have e3 : (S.set (x - f) 2).set (x - f) 3 = S.set (x - f) 3 := by rw [List.set_set]
  have hk := count_more hx2
  rw [e3] at hk
  refine ⟨⟨A, c, M, k + 1, _, ?_, ?_, hm, fun y => ?_, by have := h.kl; omega, h.f1, by have := h.top; simp at this ⊢; exact this, ?_, ?_, ?_, ?_⟩, hFM⟩
  · have hb := (hg.block P h.blk.lt (fun e => h.notM.1 (by injection e with e; exact e.symm))).trans h.blk
    rw [e23]
    simp only [List.length_set] at hb ⊢
    exact hb
  · rw [e23]
    exact own_keep h.own fun g hg' => hg.block g (h.own.lt g hg').2 (fun e => h.notM.2 (by rw [hg', e]))
  · by_cases hy : y = x
    · subst hy
      rw [Maps.has_put_same (h.map.isMap) (isKeyU _), st_set (by rw [hx]; omega), if_pos rfl]
      rfl
    · rw [Maps.has_put_other (litU_ne hy), h.rep y, st_set (by rw [hx]; omega), st_set (by rw [hx]; omega), if_neg hy, if_neg hy]
  · exact h.fP.imp_right (fun h => by rw [hsz]; exact h)
  · exact h.fM.imp_right (fun h => by rw [hsz]; exact h)
  · intro g hg'
    rw [e23] at hg'
    exact (h.fA g hg').imp_right (fun h => by rw [hsz]; exact h)
  · intro g hg'
    rw [hsz]
    exact h.lt g (hg'.imp_right (fun h => by rw [hsz] at h; exact h))
set_option maxHeartbeats 1000000 in
theorem abort_any (h : LF w F P f S) {x : Nat} (hxx : x < 18446744073709551616) : Calls Try.prog 26 #[.pointer (some ⟨P, 0, none⟩), .int .u64 (x : Int)] w (CmP w F P f S x 3) := by
  by_cases hx : stOf f S x = 1
  · have CE := Lib.hid (end_yes h hx)
    have HE : Hid (endE f S x = 0 ∧ endS f S x 3 = S.set (x - f) 3) := Lib.hid ⟨if_pos hx, if_pos hx⟩
    have HX := Lib.hid hx
    have HL := Lib.hid h
    have HK := Lib.hid (Maps.keyOf_int_mk Try.underlying28 (wfU hxx))
    clear h hx
    go_enter Try.func26, Try.ntmps26
    go_wp2_with fail
    refine CE.out.mono ?_
    rintro e w1 ⟨rfl, ⟨A, c, M, k, D, h1⟩, ht1⟩
    have H1 := Lib.hid h1
    have HT1 := Lib.hid ht1
    have x3 := h1.blk.cell 3
    have HM := Lib.hid h1.map
    have hkl : Hid (k < maxLen) := Lib.hid (by have := h1.kl; have := List.count_le_length (a := 3) (l := S.set (x - f) 2); have := h1.top; unfold maxLen; omega)
    clear h1 ht1
    go_wp2_with (first | (at_mapUpdate; refine wpList_mapUpdate_in _ rfl _ _ _ 116 rfl 28 119 lawU Try.underlying116 _ M k D rfl HM.out hkl.out _ _ _ rfl rfl HK.out _ [] unitElem_mk ?_; intro w2 hown2 hturn2) | fail)
    go_ret
    unfold CmP
    rw [HE.out.1, HE.out.2]
    exact ⟨rfl, turned_goes H1.out HT1.out HX.out hown2 hturn2 (HT1.out.on (turned_turn hturn2 H1.out.fM))⟩
  · have CE := Lib.hid (end_no h hx)
    have HE : Hid (endE f S x = 15 ∧ endS f S x 3 = S) := Lib.hid ⟨if_neg hx, if_neg hx⟩
    have HG := Lib.hid (goes_refl h)
    clear h hx
    go_enter Try.func26, Try.ntmps26
    go_wp2_with fail
    refine CE.out.mono ?_
    rintro e w1 ⟨rfl, rfl⟩
    go_wp2_with fail
    go_ret
    unfold CmP
    rw [HE.out.1, HE.out.2]
    exact ⟨rfl, HG.out⟩
end
end Go.Proofs.Ytnpmjljpaaaljaa.Clg
