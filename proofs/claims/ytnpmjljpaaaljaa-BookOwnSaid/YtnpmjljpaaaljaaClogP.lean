/- A log alone, and the document's beside it, with blocks that stay; awake. -/
import Derived.Test.YtnpmjljpaaaljaaClogS
namespace Go.Proofs.Ytnpmjljpaaaljaa.Clg
open Go.ChangeMaps Go.MapKept Go.RowKit Go.Proofs.Ytnpmjljpaaaljaa.Nums Go.Proofs.Ytnpmjljpaaaljaa.Mem
set_option linter.unusedVariables false
set_option linter.unusedSimpArgs false
set_option maxRecDepth 100000
/-- blocks of K are as they were -/
def KeepK (K : Nat → Prop) (w w' : World) : Prop := ∀ g, K g → w'.heap[g]? = w.heap[g]?
theorem KeepK.blk {K : Nat → Prop} {w w' : World} (h : KeepK K w w') {g : Nat} {t : TypeId} {cs : Array Value} (hb : Blk w g t cs) (hg : K g) : Blk w' g t cs := (h g hg).trans hb
def No : Nat → Prop := fun _ => False
/-- the log at P alone: all its blocks are newer than w0, none is of K -/
def AL (w0 w : World) (K : Nat → Prop) (P f : Nat) (S : List Nat) : Prop :=
  ∃ F, LF w F P f S ∧ (∀ g, F g → w0.heap.size ≤ g) ∧ (∀ g, K g → ¬ F g ∧ g < w.heap.size) ∧ Below w0.heap.size w0 w
section
variable {w0 w w' : World} {K K' : Nat → Prop} {P f : Nat} {S S' : List Nat}
theorem AL.bel (h : AL w0 w K P f S) : Below w0.heap.size w0 w := by obtain ⟨F, _, _, _, h⟩ := h; exact h
theorem AL.top (h : AL w0 w K P f S) : 1 ≤ f ∧ f + S.length ≤ 1099511627777 := by obtain ⟨F, h, _⟩ := h; exact h.top
theorem AL.less (h : AL w0 w K P f S) (hK : ∀ g, K' g → K g) : AL w0 w K' P f S := by
  obtain ⟨F, h1, h2, h3, h4⟩ := h
  exact ⟨F, h1, h2, fun g hg => h3 g (hK g hg), h4⟩
theorem AL.no (h : AL w0 w K P f S) : AL w0 w No P f S := h.less fun g hg => hg.elim
theorem AL.below (h : AL w0 w K P f S) (hb : Below w.heap.size w w') : AL w0 w' K P f S ∧ KeepK K w w' := by
  obtain ⟨F, h1, h2, h3, h4⟩ := h
  exact ⟨⟨F, h1.below hb, h2, fun g hg => ⟨(h3 g hg).1, Nat.lt_of_lt_of_le (h3 g hg).2 hb.size⟩, h4.trans (hb.mono h4.size)⟩, fun g hg => hb.block g (h3 g hg).2⟩
theorem AL.drewN (h : AL w0 w K P f S) (n : Nat) : AL w0 (w.drewN n) K P f S := by
  obtain ⟨F, h1, h2, h3, h4⟩ := h
  exact ⟨F, h1.drewN n, h2, h3, ⟨h4.os, h4.tape, h4.output, h4.size, h4.block⟩⟩
/-- a new block is one that stays -/
theorem AL.alloc (h : AL w0 w K P f S) (o : Obj) : AL w0 (w.alloc o) (fun g => K g ∨ g = w.heap.size) P f S := by
  have h' := (h.below (bel_alloc w o)).1
  obtain ⟨F, h1, h2, h3, h4⟩ := h
  refine ⟨F, h1.alloc o, h2, fun g hg => ?_, h'.bel⟩
  rcases hg with hg | rfl
  · exact ⟨(h3 g hg).1, by have := (h3 g hg).2; rw [size_alloc]; omega⟩
  · exact ⟨fun hf => by have := h1.lt _ hf; omega, by rw [size_alloc]; omega⟩
theorem AL.goes {F : Nat → Prop} (hg : Goes w F P f S' w') (h2 : ∀ g, F g → w0.heap.size ≤ g) (h3 : ∀ g, K g → ¬ F g ∧ g < w.heap.size) (h4 : Below w0.heap.size w0 w) : AL w0 w' K P f S' ∧ KeepK K w w' := by
  refine ⟨⟨_, hg.1, fun g h => ?_, fun g h => ⟨fun hn => ?_, Nat.lt_of_lt_of_le (h3 g h).2 hg.2.size⟩, h4.trans (hg.2.below h4.size h2)⟩, fun g h => hg.2.block g (h3 g h).2 (h3 g h).1⟩
  · rcases h with h | h
    · exact h2 g h
    · have := h4.size; omega
  · rcases hn with hn | hn
    · exact (h3 g h).1 hn
    · have := (h3 g h).2; omega
theorem al_new (w : World) (f : Nat) (h1 : 1 ≤ f) (h2 : f ≤ 1099511627776) {w0 : World} (hb : Below w0.heap.size w0 w) : Calls Try.prog 30 #[.int .u64 (f : Int)] w fun e w' => ∃ P, e = .returned (.tuple #[.pointer (some ⟨P, 0, none⟩), .int .i64 0]) ∧ AL w0 w' No P f [] ∧ Below w.heap.size w w' ∧ w.heap.size ≤ P := by
  refine (new_any w f h1 h2).mono ?_
  rintro e w' ⟨F, P, rfl, hl, hf, hb'⟩
  exact ⟨P, rfl, ⟨F, hl, fun g hg => Nat.le_trans hb.size (hf g hg), fun g hg => hg.elim, hb.trans (hb'.mono hb.size)⟩, hb', by obtain ⟨A, c, M, k, D, h⟩ := hl; exact hf P h.fP⟩
theorem al_begin (h : AL w0 w K P f S) (ht : f + S.length ≤ 1099511627776) : Calls Try.prog 25 #[.pointer (some ⟨P, 0, none⟩)] w fun e w' => e = .returned (.tuple #[.int .u64 ((f + S.length : Nat) : Int), .int .i64 0]) ∧ AL w0 w' K P f (S ++ [1]) ∧ KeepK K w w' := by
  obtain ⟨F, h1, h2, h3, h4⟩ := h
  refine (begin_any h1 ht).mono ?_
  rintro e w' ⟨rfl, hg⟩
  exact ⟨rfl, AL.goes hg h2 h3 h4⟩
theorem al_full (h : AL w0 w K P f S) (ht : f + S.length = 1099511627777) : Calls Try.prog 25 #[.pointer (some ⟨P, 0, none⟩)] w fun e w' => e = .returned (.tuple #[.int .u64 0, .int .i64 12]) ∧ w = w' := by
  obtain ⟨F, h1, h2, h3, h4⟩ := h
  exact begin_full h1 ht
theorem al_commit (h : AL w0 w K P f S) (x : Nat) : Calls Try.prog 27 #[.pointer (some ⟨P, 0, none⟩), .int .u64 (x : Int)] w fun e w' => e = .returned (.int .i64 (endE f S x)) ∧ AL w0 w' K P f (endS f S x 2) ∧ KeepK K w w' := by
  obtain ⟨F, h1, h2, h3, h4⟩ := h
  refine (commit_any h1 x).mono ?_
  rintro e w' ⟨rfl, hg⟩
  exact ⟨rfl, AL.goes hg h2 h3 h4⟩
theorem al_abort (h : AL w0 w K P f S) {x : Nat} (hx : x < 18446744073709551616) : Calls Try.prog 26 #[.pointer (some ⟨P, 0, none⟩), .int .u64 (x : Int)] w fun e w' => e = .returned (.int .i64 (endE f S x)) ∧ AL w0 w' K P f (endS f S x 3) ∧ KeepK K w w' := by
  obtain ⟨F, h1, h2, h3, h4⟩ := h
  refine (abort_any h1 hx).mono ?_
  rintro e w' ⟨rfl, hg⟩
  exact ⟨rfl, AL.goes hg h2 h3 h4⟩
theorem al_next (h : AL w0 w K P f S) : Calls Try.prog 50 #[.pointer (some ⟨P, 0, none⟩)] w fun e w' => e = .returned (.int .u64 ((f + S.length : Nat) : Int)) ∧ w = w' := by
  obtain ⟨F, h1, h2, h3, h4⟩ := h
  exact next_any h1
theorem al_state (h : AL w0 w K P f S) (hS : ∀ s ∈ S, 1 ≤ s ∧ s ≤ 3) {x : Nat} (hx : x < 18446744073709551616) : Calls Try.prog 28 #[.pointer (some ⟨P, 0, none⟩), .int .u64 (x : Int)] w fun e w' => e = .returned (.int .i64 (stOf f S x : Int)) ∧ AL w0 w' K P f S ∧ KeepK K w w' ∧ Below w.heap.size w w' := by
  have H := h
  obtain ⟨F, h1, h2, h3, h4⟩ := h
  refine (state_any h1 hS hx).mono ?_
  rintro e w' ⟨rfl, hb⟩
  exact ⟨rfl, (H.below hb).1, (H.below hb).2, hb⟩
theorem al_all (h : AL w0 w K P f S) : Calls Try.prog 57 #[.pointer (some ⟨P, 0, none⟩)] w fun e w' => ∃ A c, e = .returned (.slice A (runs f S).length c) ∧ SlU w' A c (runs f S) ∧ AL w0 w' K P f S ∧ KeepK K w w' ∧ Below w.heap.size w w' := by
  have H := h
  obtain ⟨F, h1, h2, h3, h4⟩ := h
  refine (all_any h1).mono ?_
  rintro e w' ⟨A, c, rfl, ho, hb⟩
  obtain ⟨A', c', e, hs⟩ := Sl.of_own ho
  injection e with e1 _ e2
  subst e1 e2
  exact ⟨A, c, rfl, hs, (H.below hb).1, (H.below hb).2, hb⟩
end
theorem st_ok_snoc {S : List Nat} (h : ∀ s ∈ S, 1 ≤ s ∧ s ≤ 3) : ∀ s ∈ S ++ [1], 1 ≤ s ∧ s ≤ 3 := by
  intro s hs
  rcases List.mem_append.1 hs with hs | hs
  · exact h s hs
  · simp at hs; omega
theorem st_ok_end {S : List Nat} (h : ∀ s ∈ S, 1 ≤ s ∧ s ≤ 3) (f x : Nat) {t : Nat} (ht : 1 ≤ t ∧ t ≤ 3) : ∀ s ∈ endS f S x t, 1 ≤ s ∧ s ≤ 3 := by
  intro s hs
  unfold endS at hs
  split at hs
  · rcases List.mem_or_eq_of_mem_set hs with hs | rfl
    · exact h s hs
    · exact ht
  · exact h s hs
end Go.Proofs.Ytnpmjljpaaaljaa.Clg
