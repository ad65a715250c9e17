/- clog.Log: New, Begin, Commit, Abort. -/
import Derived.Test.YtnpmjljpaaaljaaClogD
namespace Go.Proofs.Ytnpmjljpaaaljaa.Clg
open Go.RowKit Go.Proofs.Ytnpmjljpaaaljaa.Nums Go.Proofs.Ytnpmjljpaaaljaa.Mem
set_option linter.unusedVariables false
set_option linter.unusedSimpArgs false
set_option maxRecDepth 100000
theorem new_bad (w : World) (f : Int) (hf : f = 0 ∨ 1099511627776 < f) : Calls Try.prog 30 #[.int .u64 f] w fun e w' => e = .returned (.tuple #[.pointer none, .int .i64 1]) ∧ w = w' := by
  rcases hf with rfl | hf
  · go_enter Try.func30, Try.ntmps30
    go_wp2_with fail
    go_ret2
    exact ⟨rfl, rfl⟩
  · have hf0 : (f == 0) = false := by rw [beq_eq_false_iff_ne]; omega
    go_enter Try.func30, Try.ntmps30
    go_wp2_with fail
    go_ret2
    exact ⟨rfl, rfl⟩
def NewP (w : World) (f : Nat) (e : Ending) (w' : World) : Prop := ∃ F P, e = .returned (.tuple #[.pointer (some ⟨P, 0, none⟩), .int .i64 0]) ∧ LF w' F P f [] ∧ (∀ g, F g → w.heap.size ≤ g) ∧ Below w.heap.size w w'
theorem new_any (w : World) (f : Nat) (h1 : 1 ≤ f) (h2 : f ≤ 1099511627776) : Calls Try.prog 30 #[.int .u64 (f : Int)] w (NewP w f) := by
  have hmm := @run_makeMap Try.prog
  have hf0 : ((f : Int) == 0) = false := by rw [beq_eq_false_iff_ne]; omega
  have hf1 : ¬ (1099511627776 : Int) < f := by omega
  have HP : Hid (NewP w f (.returned (.tuple #[.pointer (some ⟨w.heap.size + 1, 0, none⟩), .int .i64 0])) ((w.alloc (.map #[] 0)).alloc (.cells #[.int .u64 (f : Int), .int .u64 (f : Int), .slice none 0 0, .map (some w.heap.size)] 118))) := Lib.hid (by
    refine ⟨fun g => g = w.heap.size ∨ g = w.heap.size + 1, w.heap.size + 1, rfl, ⟨none, 0, w.heap.size, 0, .map [], ?_, World.ownsRow_nil _ _ _ _, (World.ownsMap_made _ _ _ _).alloc _, fun x => ?_, Nat.zero_le _, h1, by simp; omega, .inr rfl, .inl rfl, fun g hg => by simp [Value.ownBlock] at hg, fun g hg => ?_⟩, fun g hg => by omega, (bel_alloc _ _).alloc (by rw [size_alloc]; omega) _⟩
    · have := Blk.new (w.alloc (.map #[] 0)) 118 #[.int .u64 (f : Int), .int .u64 (f : Int), .slice none 0 0, .map (some w.heap.size)]
      rw [size_alloc] at this
      exact this
    · rw [st_nil]; rfl
    · rw [size_alloc, size_alloc]; omega)
  go_enter Try.func30, Try.ntmps30
  go_wp2_with fail
  go_ret2
  exact HP.out
theorem begin_nil (w : World) : Calls Try.prog 25 #[.pointer none] w fun e w' => e = .returned (.tuple #[.int .u64 0, .int .i64 15]) ∧ w = w' := by
  go_enter Try.func25, Try.ntmps25
  go_wp2_with fail
  go_ret2
  exact ⟨rfl, rfl⟩
section
variable {w w' : World} {F G : Nat → Prop} {P f c M k : Nat} {S : List Nat} {A : Option Addr} {D : DataW Unit}
theorem begin_full (h : LF w F P f S) (ht : f + S.length = 1099511627777) : Calls Try.prog 25 #[.pointer (some ⟨P, 0, none⟩)] w fun e w' => e = .returned (.tuple #[.int .u64 0, .int .i64 12]) ∧ w = w' := by
  obtain ⟨A, c, M, k, D, h⟩ := h
  have x1 := h.blk.cell 1
  rw [ht] at x1
  clear h ht
  go_enter Try.func25, Try.ntmps25
  go_wp2_with fail
  go_ret2
  exact ⟨rfl, rfl⟩
/-- the log goes on to these states -/
def Goes (w : World) (F : Nat → Prop) (P f : Nat) (S' : List Nat) (w' : World) : Prop := LF w' (New F w w') P f S' ∧ Turn F w w'
def BegP (w : World) (F : Nat → Prop) (P f : Nat) (S : List Nat) (e : Ending) (w' : World) : Prop := e = .returned (.tuple #[.int .u64 ((f + S.length : Nat) : Int), .int .i64 0]) ∧ Goes w F P f (S ++ [1]) w'
theorem LG.far (h : LG w F P f S A c M k D) : (Value.slice A (runs f S).length c).ownBlock ≠ some P := own_blk_ne h.own h.blk (by decide)
theorem LG.notM (h : LG w F P f S A c M k D) : M ≠ P ∧ (Value.slice A (runs f S).length c).ownBlock ≠ some M := by
  obtain ⟨es, clock, hb, _⟩ := h.map
  refine ⟨fun e => ?_, fun e => ?_⟩
  · have := h.blk
    unfold Blk at this
    rw [← e, hb] at this
    cases this
  · rcases h.own.2 with ⟨h1, _⟩ | ⟨g, cap, cur, hv, _, hc, _⟩
    · rw [h1] at e; simp [Value.ownBlock] at e
    · rw [hv] at e
      have : g = M := by simpa [Value.ownBlock] using e
      subst this
      rw [hb] at hc
      cases hc
/-- the running ones lie anew, and the log's cells are these -/
theorem LG.put (h : LG w F P f S A c M k D) {S' : List Nat} {v' : Value} {w1 w2 : World} {nx : Nat} (hnx : nx = f + S'.length) (ho : OwnU w1 0 v' (runs f S').length (u64s (runs f S'))) (hT : Turn F w w1) (hT2 : Turn F w w2)
    (hb : Blk w2 P 118 #[.int .u64 (f : Int), .int .u64 (nx : Int), v', .map (some M)]) (hk : ∀ g, g < w1.heap.size → g ≠ P → w2.heap[g]? = w1.heap[g]?) (hs : w2.heap.size = w1.heap.size) (hM : w1.heap[M]? = w.heap[M]?)
    (hv : v'.ownBlock = (Value.slice A (runs f S).length c).ownBlock ∨ ∃ g, v'.ownBlock = some g ∧ w.heap.size ≤ g) (hP1 : v'.ownBlock ≠ some P) (hr : Rep D f S') (ht : f + S'.length ≤ 1099511627777) (h3 : S.count 3 ≤ S'.count 3) : Goes w F P f S' w2 := by
  obtain ⟨A', c', rfl, _⟩ := Sl.of_own ho
  obtain ⟨es, clock, hMb, hrest⟩ := h.map
  have hMlt := h.lt M h.fM
  refine ⟨⟨A', c', M, k, D, by rw [hnx] at hb; exact hb, own_keep ho fun g hg => hk g (ho.lt g hg).2 (fun e => hP1 (e ▸ hg)), ⟨es, clock, ?_, hrest⟩, hr, Nat.le_trans h.kl h3, h.f1, ht, .inl h.fP, .inl h.fM, fun g hg => ?_, fun g hg => ?_⟩, hT2⟩
  · rw [hk M (Nat.lt_of_lt_of_le hMlt hT.size) h.notM.1, hM]; exact hMb
  · rcases hv with e | ⟨g', e, hg'⟩
    · exact .inl (h.fA g (by rw [← e]; exact hg))
    · refine .inr ⟨?_, by rw [hs]; exact (ho.lt g hg).2⟩
      have e2 := e.symm.trans hg
      injection e2 with e2
      omega
  · rcases hg with hg | hg
    · exact Nat.lt_of_lt_of_le (h.lt g hg) hT2.size
    · exact hg.2
set_option maxHeartbeats 1000000 in
theorem begin_any (h : LF w F P f S) (ht : f + S.length ≤ 1099511627776) : Calls Try.prog 25 #[.pointer (some ⟨P, 0, none⟩)] w (BegP w F P f S) := by
  obtain ⟨A, c, M, k, D, h⟩ := h
  have H := Lib.hid h
  have x1 := h.blk.cell 1
  have x2 := h.blk.cell 2
  have f1 := h.blk.frozen 1
  have f2 := h.blk.frozen 2
  have hlr := runs_len S f
  obtain ⟨nx, hnx⟩ : ∃ nx, f + S.length = nx := ⟨_, rfl⟩
  have HNX := Lib.hid hnx
  rw [hnx] at x1 ht
  obtain ⟨n, hn⟩ : ∃ n, (runs f S).length = n := ⟨_, rfl⟩
  have HN := Lib.hid hn
  have hO := h.own
  rw [hn] at x2 hO
  have HO := Lib.hid hO
  have hF := h.far
  rw [hn] at hF
  have HF := Lib.hid hF
  have hN1 : n ≤ 1099511627777 := by omega
  have ht' : ¬ (1099511627776 : Int) < nx := by omega
  have ht2 : (nx : Int) ≤ 1099511627776 := by omega
  have hBk := h.blk
  rw [hnx, hn] at hBk
  have HB := Lib.hid hBk
  clear h hnx hn hO hF hlr hBk
  go_enter Try.func25, Try.ntmps25
  go_wp2_with (at_builtin; go_loud (refine wpl_app_u rfl (.tmp 22) (.tmp 24) rfl 0 _ n (u64s (runs f S)) rfl (HO.out.alloc _) _ _ 1 _ rfl (lies_lit _ _ _ 1 1 rfl) (one1 _ _) (by omega) (by omega) ?_; intro v1 w1 hown1 hg1; obtain ⟨A1, c1, hv1, _⟩ := Sl.of_own hown1; subst hv1; have hb1 : Blk w1 P 118 #[.int .u64 (f : Int), .int .u64 (nx : Int), .slice A n c, .map (some M)] := (hg1.1.block P (HB.out.alloc _).lt (Ne.symm HF.out)).trans (HB.out.alloc _); have hb2 : Blk (w1.setCell ⟨P, 2, none⟩ (.slice A1 (n + 1) c1)) P 118 #[.int .u64 (f : Int), .int .u64 (nx : Int), .slice A1 (n + 1) c1, .map (some M)] := hb1.set_ 2 _; have hc1 := hb2.cell 1; have hf1 := hb2.frozen 1; have hf2 := hb1.frozen 2; have hc2 := hb1.cell 2))
  have hb3 : Blk ((w1.setCell ⟨P, 2, none⟩ (.slice A1 (n + 1) c1)).setCell ⟨P, 1, none⟩ (.int .u64 ((nx : Int) + 1))) P 118 #[.int .u64 (f : Int), .int .u64 ((nx : Int) + 1), .slice A1 (n + 1) c1, .map (some M)] := hb2.set_ 1 _
  go_ret2
  have hr := runs_snoc 1 S f
  rw [if_pos rfl, HNX.out] at hr
  have hl : (runs f (S ++ [1])).length = n + 1 := by rw [hr, List.length_append, HN.out]; rfl
  have hsz : w.heap.size ≤ w1.heap.size := by have := hg1.size; rw [size_alloc] at this; omega
  have hT1 : Turn F w w1 := (Turn.of_below (bel_alloc w _)).kin hg1 (fun g hg => .inl (H.out.fA g (by rw [HN.out]; exact hg)))
  have hL : (S ++ [1]).length = S.length + 1 := by simp
  refine ⟨by rw [HNX.out]; rfl, H.out.put (nx := nx + 1) (v' := .slice A1 (n + 1) c1) (by rw [hL]; have := HNX.out; omega) (by rw [hl]; exact own_eqU hown1 rfl (by rw [hr, u64s_app]; rfl)) hT1 ((hT1.set_ (.inl H.out.fP) _).set_ (.inl H.out.fP) _) hb3 (fun g hg hne => ?_) (by simp [World.setCell]) ?_ ?_ ?_ ?_ ?_ (by rw [List.count_append]; omega)⟩
  · exact (Below.heap_setCell _ _ _ g hne).trans (Below.heap_setCell _ _ _ g hne)
  · have hMl := H.out.lt M H.out.fM
    refine (hg1.1.block M (by rw [size_alloc]; omega) (fun e => ?_)).trans (Below.heap_alloc w _ M hMl)
    have := H.out.notM.2
    rw [HN.out] at this
    exact this e.symm
  · rcases hg1.2 with e | ⟨g, e, hg⟩
    · exact .inl (by rw [HN.out]; exact e)
    · exact .inr ⟨g, e, by rw [size_alloc] at hg; omega⟩
  · exact own_blk_ne hown1 hb1 (by decide)
  · intro x
    rw [H.out.rep x, st_snoc]
    split
    · rename_i hx
      rw [st_out (.inr (by omega))]
      rfl
    · rfl
  · rw [hL]; have := HNX.out; omega
theorem end_nil (w : World) (x : Int) : Calls Try.prog 54 #[.pointer none, .int .u64 x] w fun e w' => e = .returned (.int .i64 15) ∧ w = w' := by
  go_enter Try.func54, Try.ntmps54
  go_wp2_with fail
  go_ret
  exact ⟨rfl, rfl⟩
theorem commit_nil (w : World) (x : Int) : Calls Try.prog 27 #[.pointer none, .int .u64 x] w fun e w' => e = .returned (.int .i64 15) ∧ w = w' := by
  go_enter Try.func27, Try.ntmps27
  go_wp2_with fail
  refine (end_nil _ _).mono ?_
  rintro e w1 ⟨rfl, rfl⟩
  go_wp2_with fail
  go_ret
  exact ⟨rfl, rfl⟩
theorem abort_nil (w : World) (x : Int) : Calls Try.prog 26 #[.pointer none, .int .u64 x] w fun e w' => e = .returned (.int .i64 15) ∧ w = w' := by
  go_enter Try.func26, Try.ntmps26
  go_wp2_with fail
  refine (end_nil _ _).mono ?_
  rintro e w1 ⟨rfl, rfl⟩
  go_wp2_with fail
  go_ret
  exact ⟨rfl, rfl⟩
theorem st_get {f : Nat} {S : List Nat} {x s : Nat} (h : stOf f S x = s) (hs : s ≠ 0) : ∃ hi : x - f < S.length, S[x - f] = s := by
  unfold stOf at h
  split at h
  · rw [List.getD_eq_getElem?_getD] at h
    rcases Nat.lt_or_ge (x - f) S.length with h1 | h1
    · refine ⟨h1, ?_⟩
      rw [List.getElem?_eq_getElem h1] at h
      exact h
    · rw [List.getElem?_eq_none h1] at h
      exact absurd h.symm hs
  · exact absurd h.symm hs
theorem count_keep {f : Nat} {S : List Nat} {x s : Nat} (h : stOf f S x = 1) (hs : s ≠ 3) : S.count 3 ≤ (S.set (x - f) s).count 3 := by
  obtain ⟨hi, he⟩ := st_get h (by omega)
  rw [List.count_set hi, he]
  simp
theorem count_more {f : Nat} {S : List Nat} {x : Nat} (h : stOf f S x = 2) : S.count 3 + 1 ≤ (S.set (x - f) 3).count 3 := by
  obtain ⟨hi, he⟩ := st_get h (by omega)
  rw [List.count_set hi, he]
  simp
/-- the error, and the states behind -/
def endE (f : Nat) (S : List Nat) (x : Nat) : Int := if stOf f S x = 1 then 0 else 15
def endS (f : Nat) (S : List Nat) (x s : Nat) : List Nat := if stOf f S x = 1 then S.set (x - f) s else S
theorem endS_len (f : Nat) (S : List Nat) (x s : Nat) : (endS f S x s).length = S.length := by
  unfold endS; split <;> simp
theorem end_no (h : LF w F P f S) {x : Nat} (hx : stOf f S x ≠ 1) : Calls Try.prog 54 #[.pointer (some ⟨P, 0, none⟩), .int .u64 (x : Int)] w fun e w' => e = .returned (.int .i64 15) ∧ w = w' := by
  obtain ⟨A, c, M, k, D, h⟩ := h
  have x2 := h.blk.cell 2
  have CB := Lib.hid (bs_any h.slu (runs_sorted S f) (by have := h.len; omega) x)
  have hfb : foundB x (runs f S) = false := by
    unfold foundB
    rw [Bool.eq_false_iff, Ne, List.contains_iff_mem, st_runs]
    exact hx
  rw [hfb] at CB
  clear h hx hfb
  go_enter Try.func54, Try.ntmps54
  go_wp2_with fail
  refine CB.out.mono ?_
  rintro e w1 ⟨rfl, rfl⟩
  go_wp2_with fail
  go_ret
  exact ⟨rfl, rfl⟩
def EndP (w : World) (F : Nat → Prop) (P f : Nat) (S : List Nat) (e : Ending) (w' : World) : Prop := e = .returned (.int .i64 0) ∧ Goes w F P f S w'
set_option maxHeartbeats 1000000 in
theorem end_yes (h : LF w F P f S) {x : Nat} (hx : stOf f S x = 1) : Calls Try.prog 54 #[.pointer (some ⟨P, 0, none⟩), .int .u64 (x : Int)] w (EndP w F P f (S.set (x - f) 2)) := by
  obtain ⟨A, c, M, k, D, h⟩ := h
  have H := Lib.hid h
  have x2 := h.blk.cell 2
  have f2 := h.blk.frozen 2
  have hm : x ∈ runs f S := st_runs.2 hx
  have hat := bs_at (runs_sorted S f) hm
  have hlt := (List.getElem?_eq_some_iff.1 hat).1
  have CB := Lib.hid (bs_any h.slu (runs_sorted S f) (by have := h.len; omega) x)
  have hfb : foundB x (runs f S) = true := found_yes hat
  rw [hfb] at CB
  obtain ⟨n, hn⟩ : ∃ n, (runs f S).length = n := ⟨_, rfl⟩
  obtain ⟨i, hi⟩ : ∃ i, bs x (runs f S) = i := ⟨_, rfl⟩
  rw [hi, hn] at CB
  rw [hi] at hat hlt
  rw [hn] at x2 hlt
  have hO := h.own
  rw [hn] at hO
  have CD := Lib.hid (fun (z : Int) (hz : z = (i : Int) + 1) => del_any hn hO hlt hz)
  have HR := Lib.hid (runs_set (s := 2) (by omega) hx hat)
  have hrl : (runs f (S.set (x - f) 2)).length = n - 1 := by
    rw [HR.out, List.length_append, List.length_take, List.length_drop]; omega
  have HRL := Lib.hid hrl
  have HN := Lib.hid hn
  have HX := Lib.hid hx
  have hn1 : n ≤ 1099511627777 := by have := h.len; omega
  have hBk := h.blk
  rw [hn] at hBk
  have HB := Lib.hid hBk
  clear h hx hm hat hfb hn hi hO hrl hBk
  go_enter Try.func54, Try.ntmps54
  go_wp2_with fail
  refine CB.out.mono ?_
  rintro e w1 ⟨rfl, rfl⟩
  go_wp2_with fail
  refine (CD.out _ (by first | rfl | omega)).mono ?_
  rintro e w1 ⟨rfl, ho, ht⟩
  have hT1 : Turn F w w1 := ht.mono fun g _ hg => H.out.fA g (by rw [HN.out]; exact hg)
  have hPn : (Value.slice A n c).ownBlock ≠ some P := by have := H.out.far; rw [HN.out] at this; exact this
  have hb1 := ht.blk HB.out hPn
  have hc2 := hb1.cell 2
  have hf2 := hb1.frozen 2
  have HT := Lib.hid ht
  have HO := Lib.hid ho
  have HT1 := Lib.hid hT1
  have HB1 := Lib.hid hb1
  clear ht ho hT1 hPn hb1
  go_wp2_with fail
  go_ret
  have hb2 : Blk (w1.setCell ⟨P, 2, none⟩ (.slice A (n - 1 : Nat) c)) P 118 #[.int .u64 (f : Int), .int .u64 ((f + S.length : Nat) : Int), .slice A (n - 1 : Nat) c, .map (some M)] := HB1.out.set_ 2 _
  refine ⟨rfl, H.out.put (nx := f + S.length) (v' := .slice A (n - 1 : Nat) c) (by simp) (by rw [HRL.out]; exact own_eqU HO.out rfl (by rw [HR.out])) HT1.out (HT1.out.set_ (.inl H.out.fP) _) hb2 (fun g hg hne => Below.heap_setCell _ _ _ g hne) (by simp [World.setCell]) ?_ ?_ ?_ ?_ (by rw [List.length_set]; exact H.out.top) (count_keep HX.out (by omega))⟩
  · exact HT.out.block M (H.out.lt M H.out.fM) (by have := H.out.notM.2; rw [HN.out] at this; exact this)
  · exact .inl (by rw [HN.out]; cases A <;> rfl)
  · have := H.out.far
    rw [HN.out] at this
    intro e
    exact this (by cases A <;> first | exact e | (simp [Value.ownBlock] at e))
  · intro y
    rw [H.out.rep y, st_set (by rw [HX.out]; omega)]
    split
    · rename_i hy
      subst hy
      rw [HX.out]
      rfl
    · rfl
theorem goes_refl (h : LF w F P f S) : Goes w F P f S w := by
  obtain ⟨A, c, M, k, D, h⟩ := h
  exact ⟨⟨A, c, M, k, D, h.more (fun g hg => .inl hg) (fun g hg => by rcases hg with hg | hg; exact h.lt g hg; exact hg.2)⟩, Turn.refl _ _⟩
theorem Goes.trans {S1 S2 : List Nat} {w1 w2 : World} (h : Goes w F P f S1 w1) (k : Goes w1 (New F w w1) P f S2 w2) (hF : ∀ g, F g → g < w.heap.size) : Goes w F P f S2 w2 := by
  obtain ⟨⟨A, c, M, n, D, h1⟩, ht⟩ := k
  have hz := h.2.size
  have hz2 := ht.size
  refine ⟨⟨A, c, M, n, D, h1.more (fun g hg => ?_) (fun g hg => ?_)⟩, h.2.on ht⟩
  · rcases hg with (hg | hg) | hg
    · exact .inl hg
    · exact .inr ⟨hg.1, by omega⟩
    · exact .inr ⟨by omega, hg.2⟩
  · rcases hg with hg | hg
    · have := hF g hg; omega
    · exact hg.2
end
end Go.Proofs.Ytnpmjljpaaaljaa.Clg
