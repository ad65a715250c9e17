/- SnapRests: a map of snapshots, tuples in a slice; what is dead stays so. -/
import Derived.Test.YtajkedckleoboaaSnapH
import Derived.Test.YtajkedckleoboaaClogO
namespace Go.Proofs.Ytajkedckleoboaa.Clg
open Go.ChangeMaps Go.MapKept Go.RowKit Go.Proofs.Ytajkedckleoboaa.Nums Go.Proofs.Ytajkedckleoboaa.Mem
set_option linter.unusedVariables false
set_option linter.unusedSimpArgs false
set_option maxRecDepth 100000
def heldElem (v : Value) : Option (DataW Value × List MemPlace) := some (.held v, [])
def HeldD (w : World) (M n : Nat) (D : DataW Value) : Prop := w.ownsMap Try.prog 22 heldElem M n D
theorem HeldD.keep {w w' : World} {M n : Nat} {D : DataW Value} (h : HeldD w M n D) (hk : w'.heap[M]? = w.heap[M]?) : HeldD w' M n D := by
  obtain ⟨es, clock, hb, rest⟩ := h
  exact ⟨es, clock, hk.trans hb, rest⟩
theorem HeldD.not_cells {w : World} {M n : Nat} {D : DataW Value} (h : HeldD w M n D) {g : Nat} {t : TypeId} {cs : Array Value} {fz : Nat × Nat} (hb : w.heap[g]? = some (.cells cs t fz)) : g ≠ M := by
  rintro rfl
  obtain ⟨es, clock, hm, _⟩ := h
  rw [hm] at hb
  cases hb
theorem own_notM {w : World} {M n : Nat} {D : DataW Value} (h : HeldD w M n D) {B sz k : Nat} {e : TypeId} {v : Value} {xs : List Value} (ho : w.ownsRow B e sz v k xs) : v.ownBlock ≠ some M := by
  rcases ho.2 with ⟨h1, _⟩ | ⟨g, cap, cur, hv, _, hc, _⟩
  · rw [h1]; simp [Value.ownBlock]
  · rw [hv]
    intro e
    have : g = M := by simpa [Value.ownBlock] using e
    exact h.not_cells hc this
structure RepL (D : DataW Value) (S : List Nat) (sv : Nat → Sv) : Prop where
  tidy : Maps.Tidy D
  has : ∀ x : Nat, Maps.has D (.int .u64 (x : Int)) = (stOf 1 S x == 1)
  at_ : ∀ x : Nat, stOf 1 S x = 1 → ∀ z, D.atKey (.int .u64 (x : Int)) z = .held (sv x).val
theorem repL_new (sv : Nat → Sv) : RepL (.map []) [] sv := ⟨Maps.tidy_empty, fun x => by rw [st_nil]; rfl, fun x hx => by rw [st_nil] at hx; cases hx⟩
def svUp (sv : Nat → Sv) (x : Nat) (s : Sv) : Nat → Sv := fun y => if y = x then s else sv y
theorem RepL.put {D : DataW Value} {S : List Nat} {sv : Nat → Sv} (h : RepL D S sv) (s : Sv) : RepL (D.put (.int .u64 ((1 + S.length : Nat) : Int)) (.held s.val)) (S ++ [1]) (svUp sv (1 + S.length) s) := by
  refine ⟨h.tidy.put (isKeyU' _) _, fun y => ?_, fun y hy z => ?_⟩
  · rw [st_snoc]
    by_cases e : y = 1 + S.length
    · rw [e, Maps.has_put_same h.tidy.isMap (isKeyU' _), if_pos rfl]; rfl
    · rw [Maps.has_put_other (litU_ne e), if_neg e]; exact h.has y
  · unfold svUp
    rw [st_snoc] at hy
    by_cases e : y = 1 + S.length
    · rw [if_pos e, e, Maps.atKey_put_same h.tidy.isMap (isKeyU' _)]
    · rw [if_neg e] at hy ⊢
      rw [Maps.atKey_put_other (litU_ne e)]
      exact h.at_ y hy z
theorem RepL.del {D : DataW Value} {S : List Nat} {sv : Nat → Sv} (h : RepL D S sv) (x : Nat) {t : Nat} (ht : t ≠ 1) : RepL (D.del (.int .u64 (x : Int))) (endS 1 S x t) sv := by
  have key : ∀ y, stOf 1 (endS 1 S x t) y = 1 ↔ stOf 1 S y = 1 ∧ y ≠ x := fun y => by
    unfold endS
    split
    · rename_i hx
      rw [st_set (by omega)]
      split
      · rename_i e; subst e; exact ⟨fun h => absurd h ht, fun h => absurd rfl h.2⟩
      · rename_i e; exact ⟨fun h => ⟨h, e⟩, fun h => h.1⟩
    · rename_i hx
      exact ⟨fun h => ⟨h, fun e => hx (e ▸ h)⟩, fun h => h.1⟩
  refine ⟨h.tidy.del _, fun y => ?_, fun y hy z => ?_⟩
  · by_cases e : y = x
    · subst e
      rw [Maps.has_del_same]
      exact (beq_eq_false_iff_ne.2 fun h1 => ((key y).1 h1).2 rfl).symm
    · rw [Maps.has_del_other (litU_ne e), h.has]
      rw [Bool.eq_iff_iff, beq_iff_eq, beq_iff_eq, key]
      exact ⟨fun h => ⟨h, e⟩, fun h => h.1⟩
  · obtain ⟨h1, h2⟩ := (key y).1 hy
    rw [Maps.atKey_del_other (litU_ne h2)]
    exact h.at_ y h1 z
def zeroSv : Sv := ⟨0, 0, 0, none, 0, 0⟩
section
variable {ops : Array Oper} {rest : List Oper} {o : Oper} {a : Act} {w : World} {Q : Exit → Act → World → Prop} {M n x : Nat} {D : DataW Value} {S : List Nat} {sv : Nat → Sv}
theorem wpl_look_yes (hg : o.guard = none) (m k : Operand) (hop : o.op = Op.lookup 94 m k true) (hm : a.eval m = .map (some M)) (hk : a.eval k = .int .u64 (x : Int)) (h : HeldD w M n D) (hr : RepL D S sv) (hx : x < 18446744073709551616) (hst : stOf 1 S x = 1)
    (hK : wpList Try.prog ops Q rest (a.put o.dst (.tuple #[(sv x).val, .bool true])) w) : wpList Try.prog ops Q (o :: rest) a w := by
  refine wpList_lookup_own_ok w hg m k _ hop 22 76 lawU Try.underlying94 heldElem (Try.zeroValue76 w) _ [] rfl M n D hm h _ _ hk (Maps.keyOf_int_mk Try.underlying22 (wfU hx)) ?_
  intro v ps hv
  rw [hr.at_ x hst] at hv
  unfold heldElem at hv
  injection hv with hv
  injection hv with hv _
  injection hv with hv
  subst hv
  rw [hr.has, hst]
  exact hK
theorem wpl_look_no (hg : o.guard = none) (m k : Operand) (hop : o.op = Op.lookup 94 m k true) (hm : a.eval m = .map (some M)) (hk : a.eval k = .int .u64 (x : Int)) (h : HeldD w M n D) (hr : RepL D S sv) (hx : x < 18446744073709551616) (hst : stOf 1 S x ≠ 1)
    (hK : wpList Try.prog ops Q rest (a.put o.dst (.tuple #[.agg #[.int .u64 0, .int .u64 0, .int .u64 0, .slice none 0 0], .bool false])) w) : wpList Try.prog ops Q (o :: rest) a w := by
  have hn : Maps.has D (.int .u64 (x : Int)) = false := by rw [hr.has]; exact beq_eq_false_iff_ne.2 hst
  refine wpList_lookup_own_ok w hg m k _ hop 22 76 lawU Try.underlying94 heldElem (Try.zeroValue76 w) _ [] rfl M n D hm h _ _ hk (Maps.keyOf_int_mk Try.underlying22 (wfU hx)) ?_
  intro v ps hv
  rw [Maps.atKey_of_not_has hn] at hv
  unfold heldElem at hv
  injection hv with hv
  injection hv with hv _
  injection hv with hv
  subst hv
  rw [hn]
  exact hK
end
/-- what is dead -/
def InvR (S : List Nat) (m : Nat → Nat) (dl : List (Nat × Nat)) : Prop :=
  (∀ r, stOf 1 S r = 1 → m r ≤ r + 1) ∧ ∀ t ∈ dl, stOf 1 S t.1 = 3 ∨ (stOf 1 S t.2 = 2 ∧ ∀ r, stOf 1 S r = 1 → t.2 < m r)
theorem invR_new (m : Nat → Nat) : InvR [] m [] := ⟨(fun r h => by rw [st_nil] at h; cases h), (fun t h => by cases h)⟩
theorem InvR.end_ {S : List Nat} {m : Nat → Nat} {dl : List (Nat × Nat)} (h : InvR S m dl) (x t : Nat) (ht : t ≠ 1) : InvR (endS 1 S x t) m dl := by
  have hl := later_end S x t
  have key : ∀ y, stOf 1 (endS 1 S x t) y = 1 → stOf 1 S y = 1 := fun y hy => by
    unfold endS at hy
    split at hy
    · rw [st_set (by omega)] at hy
      split at hy
      · exact absurd hy ht
      · exact hy
    · exact hy
  refine ⟨fun r hr => h.1 r (key r hr), fun s hs => ?_⟩
  rcases h.2 s hs with h1 | ⟨h1, h2⟩
  · exact .inl (by rw [hl.2 _ (.inr h1), h1])
  · exact .inr ⟨by rw [hl.2 _ (.inl h1), h1], fun r hr => h2 r (key r hr)⟩
theorem xmin_cases (S : List Nat) (x : Nat) : (∃ r, stOf 1 S r = 1 ∧ r ≠ x ∧ xminOf 1 S x = r) ∨ xminOf 1 S x = 1 + S.length := by
  unfold xminOf
  cases hq : runX 1 S x with
  | nil => exact .inr rfl
  | cons r l =>
    have hm : r ∈ runX 1 S x := by rw [hq]; simp
    unfold runX at hm
    rw [List.mem_filter] at hm
    exact .inl ⟨r, st_runs.1 hm.1, by simpa using hm.2, rfl⟩
theorem InvR.begin_ {S : List Nat} {m m' : Nat → Nat} {dl : List (Nat × Nat)} (h : InvR S m dl) (h1 : m' (1 + S.length) = xminOf 1 (S ++ [1]) (1 + S.length)) (h2 : ∀ y, y ≠ 1 + S.length → m' y = m y) : InvR (S ++ [1]) m' dl := by
  have key : ∀ y, y ≠ 1 + S.length → stOf 1 (S ++ [1]) y = stOf 1 S y := fun y hy => by rw [st_snoc, if_neg hy]
  refine ⟨fun r hr => ?_, fun t ht => ?_⟩
  · by_cases e : r = 1 + S.length
    · rw [e, h1]
      rcases xmin_cases (S ++ [1]) (1 + S.length) with ⟨r0, hr0, hne, hx⟩ | hx
      · rw [hx]
        have := (st_in (f := 1) (S := S ++ [1]) (x := r0) (by omega)).2
        simp at this
        omega
      · rw [hx]; simp; omega
    · rw [h2 r e]
      exact h.1 r (by rw [← key r e]; exact hr)
  · rcases h.2 t ht with h3 | ⟨h3, h4⟩
    · have := st_in (f := 1) (S := S) (x := t.1) (by omega)
      exact .inl (by rw [key _ (by omega)]; exact h3)
    · have hb := st_in (f := 1) (S := S) (x := t.2) (by omega)
      refine .inr ⟨by rw [key _ (by omega)]; exact h3, fun r hr => ?_⟩
      by_cases e : r = 1 + S.length
      · rw [e, h1]
        rcases xmin_cases (S ++ [1]) (1 + S.length) with ⟨r0, hr0, hne, hx⟩ | hx
        · rw [hx]
          rw [key r0 hne] at hr0
          have h5 := h4 r0 hr0
          have h6 := h.1 r0 hr0
          have : t.2 ≠ r0 := fun e => by rw [e, hr0] at h3; cases h3
          omega
        · rw [hx]; simp; omega
      · rw [h2 r e]
        exact h4 r (by rw [← key r e]; exact hr)
/-- those that run, below so much -/
def liveL (S : List Nat) (j : Nat) : List Nat := (List.range j).filter fun x => stOf 1 S x == 1
theorem live_succ (S : List Nat) (j : Nat) : liveL S (j + 1) = liveL S j ++ if stOf 1 S j = 1 then [j] else [] := by
  unfold liveL
  rw [List.range_succ, List.filter_append]
  congr 1
  by_cases h : stOf 1 S j = 1
  · rw [if_pos h, List.filter_cons_of_pos (by rw [h]; rfl)]; rfl
  · rw [if_neg h, List.filter_cons_of_neg (by simpa using h)]; rfl
theorem live_mem {S : List Nat} {j x : Nat} : x ∈ liveL S j ↔ x < j ∧ stOf 1 S x = 1 := by
  unfold liveL
  rw [List.mem_filter, List.mem_range, beq_iff_eq]
theorem InvR.still {S : List Nat} {m : Nat → Nat} {dl : List (Nat × Nat)} (h : InvR S m dl) {t : Nat × Nat} (ht : t ∈ dl) : deadB 1 S t.1 t.2 (hzOf (1 + S.length) ((liveL S 60).map m)) = true := by
  unfold deadB
  rcases h.2 t ht with h1 | ⟨h1, h2⟩
  · rw [h1]; rfl
  · have hb := st_in (f := 1) (S := S) (x := t.2) (by omega)
    have hz : t.2 < hzOf (1 + S.length) ((liveL S 60).map m) := hz_gt (fun y hy => by
      obtain ⟨x, hx, rfl⟩ := List.mem_map.1 hy
      exact h2 x (live_mem.1 hx).2) (by omega)
    rw [h1, decide_eq_true hz]
    simp
theorem InvR.more {S : List Nat} {m : Nat → Nat} {dl : List (Nat × Nat)} (h : InvR S m dl) (hS : S.length < 59) {a b : Nat} (hd : deadB 1 S a b (hzOf (1 + S.length) ((liveL S 60).map m)) = true) : InvR S m (dl ++ [(a, b)]) := by
  refine ⟨h.1, fun t ht => ?_⟩
  rcases List.mem_append.1 ht with ht | ht
  · exact h.2 t ht
  · simp at ht
    subst ht
    unfold deadB at hd
    rw [Bool.or_eq_true, Bool.and_eq_true, beq_iff_eq, beq_iff_eq, decide_eq_true_iff] at hd
    rcases hd with h1 | ⟨h1, h2⟩
    · exact .inl h1
    · refine .inr ⟨h2, fun r hr => ?_⟩
      have hb := st_in (f := 1) (S := S) (x := r) (by omega)
      have := hz_le (nx := 1 + S.length) (List.mem_map.2 ⟨r, live_mem.2 ⟨by omega, hr⟩, rfl⟩ : m r ∈ (liveL S 60).map m)
      omega
end Go.Proofs.Ytajkedckleoboaa.Clg
