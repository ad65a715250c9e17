/- clog.Log: its memory; what changes nothing: Next, All, State. -/
import Derived.Test.YtnpmjljpaaaljaaClogC
import Derived.Maps.Own
import Derived.Maps.OwnSet
import Derived.Maps.Views
namespace Go.Proofs.Ytnpmjljpaaaljaa.Clg
open Go.RowKit Go.Proofs.Ytnpmjljpaaaljaa.Nums Go.Proofs.Ytnpmjljpaaaljaa.Mem
set_option linter.unusedVariables false
set_option linter.unusedSimpArgs false
set_option maxRecDepth 100000
theorem lawU : Go.Maps.Keyed Try.prog 28 := Go.Maps.int_keyed Try.underlying28
def SetD (w : World) (M n : Nat) (D : DataW Unit) : Prop := w.ownsMap Try.prog 28 unitElem M n D
theorem wfU {x : Nat} (h : x < 18446744073709551616) : (Lit.int .u64 (x : Int)).wf = true := by
  simp [Lit.wf, IntKind.min, IntKind.max, IntKind.signed, IntKind.bits]; omega
theorem litU_ne {x y : Nat} (h : x ≠ y) : (Lit.int .u64 (x : Int)) ≠ .int .u64 (y : Int) := fun e => by injection e with _ e; omega
/-- the map tells just those that are aborted -/
def Rep (D : DataW Unit) (f : Nat) (S : List Nat) : Prop := ∀ x : Nat, Maps.has D (.int .u64 (x : Int)) = (stOf f S x == 3)
/-- block P is the log, from f on, of these states; F: all its blocks -/
structure LG (w : World) (F : Nat → Prop) (P f : Nat) (S : List Nat) (A : Option Addr) (c M k : Nat) (D : DataW Unit) : Prop where
  blk : Blk w P 118 #[.int .u64 (f : Int), .int .u64 ((f + S.length : Nat) : Int), .slice A (runs f S).length c, .map (some M)]
  own : OwnU w 0 (.slice A (runs f S).length c) (runs f S).length (u64s (runs f S))
  map : SetD w M k D
  rep : Rep D f S
  kl : k ≤ S.count 3
  f1 : 1 ≤ f
  top : f + S.length ≤ 1099511627777
  fP : F P
  fM : F M
  fA : ∀ g, (Value.slice A (runs f S).length c).ownBlock = some g → F g
  lt : ∀ g, F g → g < w.heap.size
def LF (w : World) (F : Nat → Prop) (P f : Nat) (S : List Nat) : Prop := ∃ A c M k D, LG w F P f S A c M k D
section
variable {w w' : World} {F G : Nat → Prop} {P f c M k : Nat} {S : List Nat} {A : Option Addr} {D : DataW Unit}
theorem LG.keep (h : LG w F P f S A c M k D) (hk : ∀ g, F g → w'.heap[g]? = w.heap[g]?) (hs : w.heap.size ≤ w'.heap.size) : LG w' F P f S A c M k D := by
  obtain ⟨es, clock, hb, rest⟩ := h.map
  exact ⟨(hk P h.fP).trans h.blk, own_keep h.own fun g hg => hk g (h.fA g hg), ⟨es, clock, (hk M h.fM).trans hb, rest⟩, h.rep, h.kl, h.f1, h.top, h.fP, h.fM, h.fA, fun g hg => Nat.lt_of_lt_of_le (h.lt g hg) hs⟩
theorem LG.more (h : LG w F P f S A c M k D) (hG : ∀ g, F g → G g) (hl : ∀ g, G g → g < w.heap.size) : LG w G P f S A c M k D :=
  ⟨h.blk, h.own, h.map, h.rep, h.kl, h.f1, h.top, hG _ h.fP, hG _ h.fM, fun g hg => hG g (h.fA g hg), hl⟩
theorem LF.keep (h : LF w F P f S) (hk : ∀ g, F g → w'.heap[g]? = w.heap[g]?) (hs : w.heap.size ≤ w'.heap.size) : LF w' F P f S := by
  obtain ⟨A, c, M, k, D, h⟩ := h; exact ⟨A, c, M, k, D, h.keep hk hs⟩
theorem LF.lt (h : LF w F P f S) : ∀ g, F g → g < w.heap.size := by
  obtain ⟨A, c, M, k, D, h⟩ := h; exact h.lt
theorem LF.below (h : LF w F P f S) (hb : Below w.heap.size w w') : LF w' F P f S := h.keep (fun g hg => hb.block g (h.lt g hg)) hb.size
theorem LF.turn (h : LF w F P f S) (ho : Turn G w w') (hG : ∀ g, F g → ¬ G g) : LF w' F P f S := h.keep (fun g hg => ho.block g (h.lt g hg) (hG g hg)) ho.size
theorem LF.alloc (h : LF w F P f S) (o : Obj) : LF (w.alloc o) F P f S := h.below (bel_alloc w o)
theorem LF.drew (h : LF w F P f S) : LF w.drew F P f S := h.keep (fun _ _ => rfl) (Nat.le_refl _)
theorem LF.drewN (h : LF w F P f S) (m : Nat) : LF (w.drewN m) F P f S := h.keep (fun _ _ => rfl) (Nat.le_refl _)
theorem LF.top (h : LF w F P f S) : 1 ≤ f ∧ f + S.length ≤ 1099511627777 := by
  obtain ⟨A, c, M, k, D, h⟩ := h; exact ⟨h.f1, h.top⟩
theorem LG.slu (h : LG w F P f S A c M k D) : SlU w A c (runs f S) := by
  obtain ⟨A', c', e, hs⟩ := Sl.of_own h.own
  injection e with e1 _ e2
  subst e1 e2
  exact hs
theorem LG.len (h : LG w F P f S A c M k D) : (runs f S).length ≤ 1099511627777 := by
  have := runs_len S f
  have := h.top
  omega
theorem next_any (h : LF w F P f S) : Calls Try.prog 50 #[.pointer (some ⟨P, 0, none⟩)] w fun e w' => e = .returned (.int .u64 ((f + S.length : Nat) : Int)) ∧ w = w' := by
  obtain ⟨A, c, M, k, D, h⟩ := h
  have x1 := h.blk.cell 1
  clear h
  go_enter Try.func50, Try.ntmps50
  go_wp2_with fail
  go_ret
  exact ⟨rfl, rfl⟩
theorem next_nil (w : World) : Calls Try.prog 50 #[.pointer none] w fun e w' => e = .returned (.int .u64 0) ∧ w = w' := by
  go_enter Try.func50, Try.ntmps50
  go_wp2_with fail
  go_ret
  exact ⟨rfl, rfl⟩
theorem all_any (h : LF w F P f S) : Calls Try.prog 57 #[.pointer (some ⟨P, 0, none⟩)] w (NewU w (runs f S)) := by
  obtain ⟨A, c, M, k, D, h⟩ := h
  have x2 := h.blk.cell 2
  have hle := h.len
  have CC := Lib.hid (clone_any h.slu (by omega))
  clear h hle
  go_enter Try.func57, Try.ntmps57
  go_wp2_with fail
  refine CC.out.mono ?_
  rintro e w1 ⟨A1, c1, rfl, ho, hb⟩
  have HO := Lib.hid ho
  have HB := Lib.hid hb
  clear ho hb
  go_wp2_with fail
  go_ret
  exact ⟨A1, c1, rfl, HO.out, HB.out⟩
theorem all_nil (w : World) : Calls Try.prog 57 #[.pointer none] w (NewU w []) := by
  go_enter Try.func57, Try.ntmps57
  go_wp2_with fail
  go_ret
  exact ⟨none, 0, rfl, World.ownsRow_nil _ _ _ _, Below.refl _ _⟩
theorem state_nil (w : World) (x : Int) : Calls Try.prog 28 #[.pointer none, .int .u64 x] w fun e w' => e = .returned (.int .i64 0) ∧ w = w' := by
  go_enter Try.func28, Try.ntmps28
  go_wp2_with fail
  go_ret
  exact ⟨rfl, rfl⟩
def StP (w : World) (s : Nat) (e : Ending) (w' : World) : Prop := e = .returned (.int .i64 (s : Int)) ∧ Below w.heap.size w w'
set_option maxHeartbeats 1000000 in
theorem state_any (h : LF w F P f S) (hS : ∀ s ∈ S, 1 ≤ s ∧ s ≤ 3) {x : Nat} (hx : x < 18446744073709551616) : Calls Try.prog 28 #[.pointer (some ⟨P, 0, none⟩), .int .u64 (x : Int)] w (StP w (stOf f S x)) := by
  obtain ⟨A, c, M, k, D, h⟩ := h
  have x0 := h.blk.cell 0
  have x1 := h.blk.cell 1
  have x2 := h.blk.cell 2
  have x3 := h.blk.cell 3
  by_cases h1 : x < f
  · have HS : Hid (stOf f S x = 0) := Lib.hid (st_out (.inl h1))
    have h1' : (x : Int) < f := by omega
    clear h
    go_enter Try.func28, Try.ntmps28
    go_wp2_with fail
    go_ret
    rw [HS.out]
    exact ⟨rfl, Below.refl _ _⟩
  have h1' : ¬ (x : Int) < f := by omega
  obtain ⟨nx, hnx⟩ : ∃ nx, f + S.length = nx := ⟨_, rfl⟩
  have HNX := Lib.hid hnx
  by_cases h2 : nx ≤ x
  · have HS : Hid (stOf f S x = 0) := Lib.hid (st_out (.inr (by omega)))
    rw [hnx] at x1
    have h2' : (nx : Int) ≤ x := by omega
    clear h hnx
    go_enter Try.func28, Try.ntmps28
    go_wp2_with fail
    go_ret
    rw [HS.out]
    exact ⟨rfl, Below.refl _ _⟩
  rw [hnx] at x1
  have h2' : ¬ (nx : Int) ≤ x := by omega
  have HM := Lib.hid h.map
  have HK := Lib.hid (Maps.keyOf_int_mk Try.underlying28 (wfU hx))
  obtain ⟨s, hs⟩ : ∃ s, stOf f S x = s := ⟨_, rfl⟩
  have hs3 : 1 ≤ s ∧ s ≤ 3 := by
    unfold stOf at hs
    rw [if_pos (by omega), List.getD_eq_getElem?_getD, List.getElem?_eq_getElem (by omega)] at hs
    have hs' : S[x - f] = s := hs
    rw [← hs']
    exact hS _ (List.getElem_mem _)
  have hhas := h.rep x
  rw [hs] at hhas
  rw [hs]
  have CB := Lib.hid (fun (o : Obj) => bs_any (w := w.alloc o) (show SlU (w.alloc o) A c (runs f S) from h.slu.on (bel_alloc w o)) (runs_sorted S f) (by have := h.len; omega) x)
  have hfb : foundB x (runs f S) = (s == 1) := by
    unfold foundB
    rw [Bool.eq_iff_iff, List.contains_iff_mem, st_runs, hs]
    simp
  rw [hfb] at CB
  by_cases h3 : s = 3
  · subst h3
    have HH : Hid (Maps.has D (.int .u64 (x : Int)) = true) := Lib.hid hhas
    clear h hnx hs hhas hfb
    go_enter Try.func28, Try.ntmps28
    go_wp2_with (at_lookup; refine wpList_lookup_own_unit _ rfl _ _ 116 rfl 28 119 lawU Try.underlying116 (Try.zeroValue119 _) M k D rfl HM.out _ _ rfl HK.out ?_; rw [HH.out])
    go_ret
    exact ⟨rfl, bel_alloc _ _⟩
  · have HH : Hid (Maps.has D (.int .u64 (x : Int)) = false) := Lib.hid (by rw [hhas, beq_eq_false_iff_ne]; exact h3)
    have x5 := (h.blk.alloc (.cells #[] 119)).cell 2
    rcases (show s = 1 ∨ s = 2 by omega) with rfl | rfl
    all_goals
      clear h hnx hs hhas hfb
      go_enter Try.func28, Try.ntmps28
      go_wp2_with (at_lookup; refine wpList_lookup_own_unit _ rfl _ _ 116 rfl 28 119 lawU Try.underlying116 (Try.zeroValue119 _) M k D rfl HM.out _ _ rfl HK.out ?_; rw [HH.out])
      refine (CB.out _).mono ?_
      rintro e w1 ⟨rfl, rfl⟩
      go_wp2_with fail
      go_ret
      exact ⟨rfl, bel_alloc _ _⟩
end
end Go.Proofs.Ytnpmjljpaaaljaa.Clg
