/- ClogRuns: a map that tells those that run. -/
import Derived.Test.YtajkedckleoboaaClogO
namespace Go.Proofs.Ytajkedckleoboaa.Clg
open Go.ChangeMaps Go.MapKept Go.RowKit Go.Proofs.Ytajkedckleoboaa.Nums Go.Proofs.Ytajkedckleoboaa.Mem
set_option linter.unusedVariables false
set_option linter.unusedSimpArgs false
set_option maxRecDepth 100000
def BoolD (w : World) (M n : Nat) (D : DataW Unit) : Prop := w.ownsMap Try.prog 22 (plainElem Try.prog 4) M n D
theorem BoolD.keep {w w' : World} {M n : Nat} {D : DataW Unit} (h : BoolD w M n D) (hk : w'.heap[M]? = w.heap[M]?) : BoolD w' M n D := by
  obtain ⟨es, clock, hb, rest⟩ := h
  exact ⟨es, clock, hk.trans hb, rest⟩
structure Rep3 (D : DataW Unit) (f : Nat) (S : List Nat) : Prop where
  tidy : Maps.Tidy D
  has : ∀ x : Nat, Maps.has D (.int .u64 (x : Int)) = (stOf f S x == 1)
  at_ : ∀ x : Nat, D.atKey (.int .u64 (x : Int)) (.lit (.bool false)) = .lit (.bool (stOf f S x == 1))
  size : Maps.size D = (runs f S).length
theorem rep3_new (f : Nat) : Rep3 (.map []) f [] := ⟨Maps.tidy_empty, fun x => by rw [st_nil]; rfl, fun x => by rw [st_nil]; rfl, rfl⟩
theorem Rep3.put {D : DataW Unit} {f : Nat} {S : List Nat} (h : Rep3 D f S) : Rep3 (D.put (.int .u64 ((f + S.length : Nat) : Int)) (.lit (.bool true))) f (S ++ [1]) := by
  have h0 : stOf f S (f + S.length) = 0 := st_out (.inr (Nat.le_refl _))
  have hn : Maps.has D (.int .u64 ((f + S.length : Nat) : Int)) = false := by rw [h.has, h0]; rfl
  refine ⟨h.tidy.put (isKeyU' _) _, fun y => ?_, fun y => ?_, ?_⟩
  · rw [st_snoc]
    by_cases hy : y = f + S.length
    · rw [hy, Maps.has_put_same h.tidy.isMap (isKeyU' _), if_pos rfl]; rfl
    · rw [Maps.has_put_other (litU_ne hy), if_neg hy]; exact h.has y
  · rw [st_snoc]
    by_cases hy : y = f + S.length
    · rw [hy, Maps.atKey_put_same h.tidy.isMap (isKeyU' _), if_pos rfl]; rfl
    · rw [Maps.atKey_put_other (litU_ne hy), if_neg hy]; exact h.at_ y
  · rw [Maps.size_put h.tidy, hn, h.size, runs_snoc]
    simp
theorem Rep3.del {D : DataW Unit} {f : Nat} {S : List Nat} (h : Rep3 D f S) (x : Nat) {t : Nat} (ht : t ≠ 1) : Rep3 (D.del (.int .u64 (x : Int))) f (endS f S x t) := by
  by_cases hx : stOf f S x = 1
  · have he : endS f S x t = S.set (x - f) t := if_pos hx
    rw [he]
    refine ⟨h.tidy.del _, fun y => ?_, fun y => ?_, ?_⟩
    · rw [st_set (by rw [hx]; omega)]
      by_cases hy : y = x
      · subst hy
        rw [Maps.has_del_same, if_pos rfl]
        exact (beq_eq_false_iff_ne.2 ht).symm
      · rw [Maps.has_del_other (litU_ne hy), if_neg hy]; exact h.has y
    · rw [st_set (by rw [hx]; omega)]
      by_cases hy : y = x
      · subst hy
        rw [Maps.atKey_del_same, if_pos rfl, beq_eq_false_iff_ne.2 ht]
      · rw [Maps.atKey_del_other (litU_ne hy), if_neg hy]; exact h.at_ y
    · have h1 := Maps.size_del (k := .int .u64 (x : Int)) h.tidy
      have h2 : Maps.has D (.int .u64 (x : Int)) = true := by rw [h.has, hx]; rfl
      rw [h2, if_pos rfl, h.size] at h1
      have := runs_one_less ht hx
      omega
  · have he : endS f S x t = S := if_neg hx
    have hn : Maps.has D (.int .u64 (x : Int)) = false := by rw [h.has]; exact beq_eq_false_iff_ne.2 hx
    rw [he, Maps.del_of_not_has hn]
    exact h
theorem plainElem_bool_inv {v : Value} {b : Bool} {ps : List MemPlace} (h : plainElem (H := Unit) Try.prog 4 v = some (.lit (.bool b), ps)) : v = .bool b := by
  have hu := Try.underlying4
  unfold plainElem at h
  rw [hu] at h
  cases v <;> simp at h
  rw [h.1]
theorem BoolD.read {w : World} {M n : Nat} {D : DataW Unit} {f : Nat} {S : List Nat} (h : BoolD w M n D) (hr : Rep3 D f S) {x : Nat} (hx : x < 18446744073709551616) :
    (Instr.lookup 53 (.map (some M)) (.int .u64 (x : Int)) false).run Try.prog w = .ok (.bool (stOf f S x == 1)) w := by
  obtain ⟨v, ps, hrun, hv⟩ := World.ownsMap.lookup h lawU Try.underlying53 (Try.zeroValue4 w) (plainElem_bool Try.underlying4 false) (Maps.keyOf_int_mk Try.underlying22 (wfU hx))
  rw [hr.at_] at hv
  rw [hrun, plainElem_bool_inv hv]
end Go.Proofs.Ytajkedckleoboaa.Clg
