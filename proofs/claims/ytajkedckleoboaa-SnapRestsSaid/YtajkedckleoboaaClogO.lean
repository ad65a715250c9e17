/- ClogOnce: a map that tells what became of each that is over. -/
import Derived.Test.YtajkedckleoboaaClogQ
namespace Go.Proofs.Ytajkedckleoboaa.Clg
open Go.ChangeMaps Go.MapKept Go.RowKit Go.Proofs.Ytajkedckleoboaa.Nums Go.Proofs.Ytajkedckleoboaa.Mem
set_option linter.unusedVariables false
set_option linter.unusedSimpArgs false
set_option maxRecDepth 100000
def IntD (w : World) (M n : Nat) (D : DataW Unit) : Prop := w.ownsMap Try.prog 22 (plainElem Try.prog 3) M n D
theorem IntD.keep {w w' : World} {M n : Nat} {D : DataW Unit} (h : IntD w M n D) (hk : w'.heap[M]? = w.heap[M]?) : IntD w' M n D := by
  obtain ⟨es, clock, hb, rest⟩ := h
  exact ⟨es, clock, hk.trans hb, rest⟩
def mS (S : List Nat) (x : Nat) : Nat := if stOf 1 S x ≤ 1 then 0 else stOf 1 S x
structure Rep2 (D : DataW Unit) (S : List Nat) : Prop where
  tidy : Maps.Tidy D
  has : ∀ x : Nat, Maps.has D (.int .u64 (x : Int)) = decide (2 ≤ stOf 1 S x)
  at_ : ∀ x : Nat, D.atKey (.int .u64 (x : Int)) (.lit (.int .i64 0)) = .lit (.int .i64 (mS S x : Int))
  size : Maps.size D + (runs 1 S).length = S.length
theorem rep2_new (k : Nat) (hr : (runs 1 (List.replicate k 1)).length = k) : Rep2 (.map []) (List.replicate k 1) := by
  have h1 : ∀ x, stOf 1 (List.replicate k 1) x ≤ 1 := fun x => by
    unfold stOf
    split
    · rw [List.getD_eq_getElem?_getD, List.getElem?_replicate]
      split <;> simp
    · omega
  refine ⟨Maps.tidy_empty, fun x => ?_, fun x => ?_, ?_⟩
  · have := h1 x
    rw [show decide (2 ≤ stOf 1 (List.replicate k 1) x) = false by rw [decide_eq_false_iff_not]; omega]
    rfl
  · unfold mS
    rw [if_pos (h1 x)]
    rfl
  · rw [hr, List.length_replicate]
    show 0 + k = k
    omega
theorem isKeyU' (x : Nat) : WideAt.IsKeyLit (.int .u64 (x : Int)) := trivial
theorem runs_one_less {f : Nat} {S : List Nat} {x s : Nat} (hs : s ≠ 1) (hx : stOf f S x = 1) : (runs f (S.set (x - f) s)).length + 1 = (runs f S).length := by
  obtain ⟨k, hk⟩ := List.mem_iff_getElem?.1 (st_runs.2 hx)
  have hl := (List.getElem?_eq_some_iff.1 hk).1
  rw [runs_set hs hx hk, List.length_append, List.length_take, List.length_drop]
  omega
theorem Rep2.put {D : DataW Unit} {S : List Nat} (h : Rep2 D S) {x t : Nat} (hx : stOf 1 S x = 1) (ht : 2 ≤ t) : Rep2 (D.put (.int .u64 (x : Int)) (.lit (.int .i64 (t : Int)))) (S.set (x - 1) t) := by
  have hn : Maps.has D (.int .u64 (x : Int)) = false := by rw [h.has, hx]; rfl
  refine ⟨h.tidy.put (isKeyU' _) _, fun y => ?_, fun y => ?_, ?_⟩
  · rw [st_set (by rw [hx]; omega)]
    by_cases hy : y = x
    · subst hy
      rw [Maps.has_put_same h.tidy.isMap (isKeyU' _), if_pos rfl]
      exact (decide_eq_true ht).symm
    · rw [Maps.has_put_other (litU_ne hy), if_neg hy]
      exact h.has y
  · unfold mS
    rw [st_set (by rw [hx]; omega)]
    by_cases hy : y = x
    · subst hy
      rw [Maps.atKey_put_same h.tidy.isMap (isKeyU' _), if_pos rfl, if_neg (by omega)]
    · rw [Maps.atKey_put_other (litU_ne hy), if_neg hy]
      exact h.at_ y
  · rw [Maps.size_put h.tidy, hn, List.length_set]
    have := runs_one_less (s := t) (by omega) hx
    have := h.size
    simp
    omega
/-- what is read -/
theorem IntD.read {w : World} {M n : Nat} {D : DataW Unit} {S : List Nat} (h : IntD w M n D) (hr : Rep2 D S) {x : Nat} (hx : x < 18446744073709551616) :
    (Instr.lookup 50 (.map (some M)) (.int .u64 (x : Int)) false).run Try.prog w = .ok (.int .i64 (mS S x : Int)) w := by
  obtain ⟨c, hrun, hat, _⟩ := World.ownsMap.lookup_int h lawU Try.underlying50 Try.underlying3 (Try.zeroValue3 w) (Maps.keyOf_int_mk Try.underlying22 (wfU hx))
  rw [hr.at_] at hat
  injection hat with hat
  injection hat with _ hat
  rw [hrun, hat]
theorem AL.mapped {w0 w w' : World} {K : Nat → Prop} {P f M : Nat} {S : List Nat} (h : AL w0 w K P f S) (hK : K M) (hM : w0.heap.size ≤ M) (ht : w.mapTurned w' M) : AL w0 w' K P f S := by
  obtain ⟨F, h1, h2, h3, h4⟩ := h
  have hT : Turn (fun g => g = M) w w' := turned_turn ht rfl
  exact ⟨F, h1.turn hT (fun g hg e => (h3 M hK).1 (e ▸ hg)), h2, fun g hg => ⟨(h3 g hg).1, Nat.lt_of_lt_of_le (h3 g hg).2 hT.size⟩, h4.trans (hT.below h4.size (fun g hg => by rw [hg]; exact hM))⟩
end Go.Proofs.Ytajkedckleoboaa.Clg
