/- The program's log and the document's, side by side, with blocks that stay. -/
import Derived.Test.YtnpmjljpaaaljaaOpenC
namespace Go.Proofs.Ytnpmjljpaaaljaa.Clg
open Go.ChangeMaps Go.MapKept Go.RowKit Go.Proofs.Ytnpmjljpaaaljaa.Nums Go.Proofs.Ytnpmjljpaaaljaa.Mem
set_option linter.unusedVariables false
set_option linter.unusedSimpArgs false
set_option maxRecDepth 100000
/-- the log at P, the document's at Q: all their blocks are newer than w0, none is of K -/
def AP (w0 w : World) (K : Nat → Prop) (P Q f : Nat) (S T : List Nat) : Prop :=
  ∃ F G, LF w F P f S ∧ RF w G Q f T ∧ (∀ g, F g → ¬ G g) ∧ (∀ g, F g → w0.heap.size ≤ g) ∧ (∀ g, G g → w0.heap.size ≤ g) ∧ (∀ g, K g → ¬ F g ∧ ¬ G g ∧ g < w.heap.size) ∧ Below w0.heap.size w0 w
section
variable {w0 w w' : World} {K K' : Nat → Prop} {P Q f : Nat} {S S' T T' : List Nat}
theorem AP.bel (h : AP w0 w K P Q f S T) : Below w0.heap.size w0 w := by obtain ⟨F, G, _, _, _, _, _, _, h⟩ := h; exact h
theorem AP.top (h : AP w0 w K P Q f S T) : 1 ≤ f ∧ f + S.length ≤ 1099511627777 := by obtain ⟨F, G, h, _⟩ := h; exact h.top
theorem AP.less (h : AP w0 w K P Q f S T) (hK : ∀ g, K' g → K g) : AP w0 w K' P Q f S T := by
  obtain ⟨F, G, h1, h2, h3, h4, h5, h6, h7⟩ := h
  exact ⟨F, G, h1, h2, h3, h4, h5, fun g hg => h6 g (hK g hg), h7⟩
theorem AP.no (h : AP w0 w K P Q f S T) : AP w0 w No P Q f S T := h.less fun g hg => hg.elim
theorem AP.below (h : AP w0 w K P Q f S T) (hb : Below w.heap.size w w') : AP w0 w' K P Q f S T ∧ KeepK K w w' := by
  obtain ⟨F, G, h1, h2, h3, h4, h5, h6, h7⟩ := h
  exact ⟨⟨F, G, h1.below hb, h2.below hb, h3, h4, h5, fun g hg => ⟨(h6 g hg).1, (h6 g hg).2.1, Nat.lt_of_lt_of_le (h6 g hg).2.2 hb.size⟩, h7.trans (hb.mono h7.size)⟩, fun g hg => hb.block g (h6 g hg).2.2⟩
theorem AP.drewN (h : AP w0 w K P Q f S T) (n : Nat) : AP w0 (w.drewN n) K P Q f S T := by
  obtain ⟨F, G, h1, h2, h3, h4, h5, h6, h7⟩ := h
  exact ⟨F, G, h1.drewN n, h2.drewN n, h3, h4, h5, h6, ⟨h7.os, h7.tape, h7.output, h7.size, h7.block⟩⟩
theorem AP.alloc (h : AP w0 w K P Q f S T) (o : Obj) : AP w0 (w.alloc o) (fun g => K g ∨ g = w.heap.size) P Q f S T := by
  have h' := (h.below (bel_alloc w o)).1
  obtain ⟨F, G, h1, h2, h3, h4, h5, h6, h7⟩ := h
  refine ⟨F, G, h1.alloc o, h2.alloc o, h3, h4, h5, fun g hg => ?_, h'.bel⟩
  rcases hg with hg | rfl
  · exact ⟨(h6 g hg).1, (h6 g hg).2.1, by have := (h6 g hg).2.2; rw [size_alloc]; omega⟩
  · exact ⟨fun hf => by have := h1.lt _ hf; omega, fun hf => by have := h2.lt _ hf; omega, by rw [size_alloc]; omega⟩
theorem AP.goes {F G : Nat → Prop} (hg : Goes w F P f S' w') (h2 : RF w G Q f T) (h3 : ∀ g, F g → ¬ G g) (h4 : ∀ g, F g → w0.heap.size ≤ g) (h5 : ∀ g, G g → w0.heap.size ≤ g) (h6 : ∀ g, K g → ¬ F g ∧ ¬ G g ∧ g < w.heap.size) (h7 : Below w0.heap.size w0 w) : AP w0 w' K P Q f S' T ∧ KeepK K w w' := by
  refine ⟨⟨_, G, hg.1, h2.turn hg.2 (fun g hG hF => h3 g hF hG), fun g h hG => ?_, fun g h => ?_, h5, fun g h => ⟨fun hn => ?_, (h6 g h).2.1, Nat.lt_of_lt_of_le (h6 g h).2.2 hg.2.size⟩, h7.trans (hg.2.below h7.size h4)⟩, fun g h => hg.2.block g (h6 g h).2.2 (h6 g h).1⟩
  · rcases h with h | h
    · exact h3 g h hG
    · have := h2.lt g hG; omega
  · rcases h with h | h
    · exact h4 g h
    · have := h7.size; omega
  · rcases hn with hn | hn
    · exact (h6 g h).1 hn
    · have := (h6 g h).2.2; omega
theorem AP.rgoes {F G : Nat → Prop} (hg : RGoes w G Q f T' w') (h1 : LF w F P f S) (h3 : ∀ g, F g → ¬ G g) (h4 : ∀ g, F g → w0.heap.size ≤ g) (h5 : ∀ g, G g → w0.heap.size ≤ g) (h6 : ∀ g, K g → ¬ F g ∧ ¬ G g ∧ g < w.heap.size) (h7 : Below w0.heap.size w0 w) : AP w0 w' K P Q f S T' ∧ KeepK K w w' := by
  refine ⟨⟨F, _, h1.turn hg.2 h3, hg.1, fun g hF h => ?_, h4, fun g h => ?_, fun g h => ⟨(h6 g h).1, fun hn => ?_, Nat.lt_of_lt_of_le (h6 g h).2.2 hg.2.size⟩, h7.trans (hg.2.below h7.size h5)⟩, fun g h => hg.2.block g (h6 g h).2.2 (h6 g h).2.1⟩
  · rcases h with h | h
    · exact h3 g hF h
    · have := h1.lt g hF; omega
  · rcases h with h | h
    · exact h5 g h
    · have := h7.size; omega
  · rcases hn with hn | hn
    · exact (h6 g h).2.1 hn
    · have := (h6 g h).2.2; omega
theorem AP.al (h : AP w0 w K P Q f S T) : ∃ F, LF w F P f S := by obtain ⟨F, G, h1, _⟩ := h; exact ⟨F, h1⟩
theorem AP.rl (h : AP w0 w K P Q f S T) : ∃ G, RF w G Q f T := by obtain ⟨F, G, _, h1, _⟩ := h; exact ⟨G, h1⟩
theorem ap_begin (h : AP w0 w K P Q f S T) (ht : f + S.length ≤ 1099511627776) : Calls Try.prog 25 #[.pointer (some ⟨P, 0, none⟩)] w fun e w' => e = .returned (.tuple #[.int .u64 ((f + S.length : Nat) : Int), .int .i64 0]) ∧ AP w0 w' K P Q f (S ++ [1]) T ∧ KeepK K w w' := by
  obtain ⟨F, G, h1, h2, h3, h4, h5, h6, h7⟩ := h
  refine (begin_any h1 ht).mono ?_
  rintro e w' ⟨rfl, hg⟩
  exact ⟨rfl, AP.goes hg h2 h3 h4 h5 h6 h7⟩
theorem ap_full (h : AP w0 w K P Q f S T) (ht : f + S.length = 1099511627777) : Calls Try.prog 25 #[.pointer (some ⟨P, 0, none⟩)] w fun e w' => e = .returned (.tuple #[.int .u64 0, .int .i64 12]) ∧ w = w' := by
  obtain ⟨F, h⟩ := h.al
  exact begin_full h ht
theorem ap_rbegin (h : AP w0 w K P Q f S T) (ht : f + T.length ≤ 1099511627776) : Calls Try.prog 49 #[.pointer (some ⟨Q, 0, none⟩)] w fun e w' => e = .returned (.tuple #[.int .u64 ((f + T.length : Nat) : Int), .int .i64 0]) ∧ AP w0 w' K P Q f S (T ++ [1]) ∧ KeepK K w w' := by
  obtain ⟨F, G, h1, h2, h3, h4, h5, h6, h7⟩ := h
  refine (rbegin_any h2 ht).mono ?_
  rintro e w' ⟨rfl, hg⟩
  exact ⟨rfl, AP.rgoes hg h1 h3 h4 h5 h6 h7⟩
theorem ap_rfull (h : AP w0 w K P Q f S T) (ht : f + T.length = 1099511627777) : Calls Try.prog 49 #[.pointer (some ⟨Q, 0, none⟩)] w fun e w' => e = .returned (.tuple #[.int .u64 0, .int .i64 12]) ∧ ∃ m, w' = w.drewN m := by
  obtain ⟨F, h⟩ := h.rl
  exact rbegin_full h ht
theorem ap_commit (h : AP w0 w K P Q f S T) (x : Nat) : Calls Try.prog 27 #[.pointer (some ⟨P, 0, none⟩), .int .u64 (x : Int)] w fun e w' => e = .returned (.int .i64 (endE f S x)) ∧ AP w0 w' K P Q f (endS f S x 2) T ∧ KeepK K w w' := by
  obtain ⟨F, G, h1, h2, h3, h4, h5, h6, h7⟩ := h
  refine (commit_any h1 x).mono ?_
  rintro e w' ⟨rfl, hg⟩
  exact ⟨rfl, AP.goes hg h2 h3 h4 h5 h6 h7⟩
theorem ap_abort (h : AP w0 w K P Q f S T) {x : Nat} (hx : x < 18446744073709551616) : Calls Try.prog 26 #[.pointer (some ⟨P, 0, none⟩), .int .u64 (x : Int)] w fun e w' => e = .returned (.int .i64 (endE f S x)) ∧ AP w0 w' K P Q f (endS f S x 3) T ∧ KeepK K w w' := by
  obtain ⟨F, G, h1, h2, h3, h4, h5, h6, h7⟩ := h
  refine (abort_any h1 hx).mono ?_
  rintro e w' ⟨rfl, hg⟩
  exact ⟨rfl, AP.goes hg h2 h3 h4 h5 h6 h7⟩
theorem ap_rend (h : AP w0 w K P Q f S T) {x : Nat} (hx : x < 18446744073709551616) (s : Nat) : Calls Try.prog 45 #[.pointer (some ⟨Q, 0, none⟩), .int .u64 (x : Int), .int .i64 (s : Int)] w fun e w' => e = .returned (.int .i64 (endE f T x)) ∧ AP w0 w' K P Q f S (endS f T x s) ∧ KeepK K w w' := by
  obtain ⟨F, G, h1, h2, h3, h4, h5, h6, h7⟩ := h
  refine (rend_any h2 hx s).mono ?_
  rintro e w' ⟨rfl, hg⟩
  exact ⟨rfl, AP.rgoes hg h1 h3 h4 h5 h6 h7⟩
theorem ap_next (h : AP w0 w K P Q f S T) : Calls Try.prog 50 #[.pointer (some ⟨P, 0, none⟩)] w fun e w' => e = .returned (.int .u64 ((f + S.length : Nat) : Int)) ∧ w = w' := by
  obtain ⟨F, h⟩ := h.al
  exact next_any h
theorem ap_rnext (h : AP w0 w K P Q f S T) : Calls Try.prog 51 #[.pointer (some ⟨Q, 0, none⟩)] w fun e w' => e = .returned (.int .u64 ((f + T.length : Nat) : Int)) ∧ ∃ m, w' = w.drewN m := by
  obtain ⟨F, h⟩ := h.rl
  exact rnext_any h
theorem ap_state (h : AP w0 w K P Q f S T) (hS : ∀ s ∈ S, 1 ≤ s ∧ s ≤ 3) {x : Nat} (hx : x < 18446744073709551616) : Calls Try.prog 28 #[.pointer (some ⟨P, 0, none⟩), .int .u64 (x : Int)] w fun e w' => e = .returned (.int .i64 (stOf f S x : Int)) ∧ AP w0 w' K P Q f S T ∧ KeepK K w w' ∧ Below w.heap.size w w' := by
  obtain ⟨F, h1⟩ := h.al
  refine (state_any h1 hS hx).mono ?_
  rintro e w' ⟨rfl, hb⟩
  exact ⟨rfl, (h.below hb).1, (h.below hb).2, hb⟩
theorem ap_rstate (h : AP w0 w K P Q f S T) {x : Nat} (hx : x < 18446744073709551616) : Calls Try.prog 52 #[.pointer (some ⟨Q, 0, none⟩), .int .u64 (x : Int)] w fun e w' => e = .returned (.int .i64 (stOf f T x : Int)) ∧ ∃ m, w' = w.drewN m := by
  obtain ⟨F, h1⟩ := h.rl
  exact rstate_any h1 hx
theorem ap_all (h : AP w0 w K P Q f S T) : Calls Try.prog 57 #[.pointer (some ⟨P, 0, none⟩)] w fun e w' => ∃ A c, e = .returned (.slice A (runs f S).length c) ∧ SlU w' A c (runs f S) ∧ AP w0 w' K P Q f S T ∧ KeepK K w w' ∧ Below w.heap.size w w' := by
  obtain ⟨F, h1⟩ := h.al
  refine (all_any h1).mono ?_
  rintro e w' ⟨A, c, rfl, ho, hb⟩
  obtain ⟨A', c', e, hs⟩ := Sl.of_own ho
  injection e with e1 _ e2
  subst e1 e2
  exact ⟨A, c, rfl, hs, (h.below hb).1, (h.below hb).2, hb⟩
theorem ap_rall (h : AP w0 w K P Q f S T) : Calls Try.prog 76 #[.pointer (some ⟨Q, 0, none⟩)] w fun e w' => ∃ A c, e = .returned (.slice A (runs f T).length c) ∧ SlU w' A c (runs f T) ∧ AP w0 w' K P Q f S T ∧ KeepK K w w' ∧ Below w.heap.size w w' := by
  obtain ⟨F, h1⟩ := h.rl
  refine (rall_any h1).mono ?_
  rintro e w' ⟨A, c, rfl, ho, hb⟩
  obtain ⟨A', c', e, hs⟩ := Sl.of_own ho
  injection e with e1 _ e2
  subst e1 e2
  exact ⟨A, c, rfl, hs, (h.below hb).1, (h.below hb).2, hb⟩
/-- the log is new, and then the document's -/
theorem ap_new (h : AL w0 w K P f S) (h1 : 1 ≤ f) (h2 : f ≤ 1099511627776) : Calls Try.prog 44 #[.int .u64 (f : Int)] w fun e w' => e = .returned (.tuple #[.pointer (some ⟨w.heap.size, 0, none⟩), .int .i64 0]) ∧ AP w0 w' K P w.heap.size f S [] ∧ Below w.heap.size w w' := by
  obtain ⟨F, k1, k2, k3, k4⟩ := h
  refine (rnew_any w f h1 h2).mono ?_
  rintro e w' ⟨rfl, hr, hb⟩
  refine ⟨rfl, ⟨F, _, k1.below hb, hr, fun g hF hG => ?_, k2, fun g hG => ?_, fun g hK => ⟨(k3 g hK).1, fun hG => ?_, Nat.lt_of_lt_of_le (k3 g hK).2 hb.size⟩, k4.trans (hb.mono k4.size)⟩, hb⟩
  · have := k1.lt g hF; omega
  · have := k4.size; omega
  · have := (k3 g hK).2; omega
end
end Go.Proofs.Ytnpmjljpaaaljaa.Clg
