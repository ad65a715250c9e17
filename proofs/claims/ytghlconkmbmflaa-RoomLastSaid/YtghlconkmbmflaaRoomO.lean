/- A slice of operations, of numbers of 16 bits, among the arguments: opened. -/
import Derived.Test.YtghlconkmbmflaaLRoomPlays
import Derived.ProofKit
import Derived.OpenShut
import Derived.Carry
import Derived.Lib.SmallJoins
import Derived.Deep.Strs
namespace Go.Proofs.Ytghlconkmbmflaa.Room
open Go.RowKit Go.Proofs.Ytghlconkmbmflaa.Nums Go.Proofs.Ytghlconkmbmflaa.Mem Go.ChangeShapes Go.WideShapes Go.Deep Go.Joins
set_option linter.unusedVariables false
set_option linter.unusedSimpArgs false
set_option maxRecDepth 100000
theorem list_of {α : Type} (P : Nat → α → Prop) : ∀ n, (∀ i, i < n → ∃ v, P i v) → ∃ l : List α, l.length = n ∧ ∀ i v, l[i]? = some v → P i v
  | 0, _ => ⟨[], rfl, fun i v h => by simp at h⟩
  | n + 1, h => by
    obtain ⟨l, hl, hp⟩ := list_of P n (fun i hi => h i (by omega))
    obtain ⟨v, hv⟩ := h n (by omega)
    refine ⟨l ++ [v], by simp [hl], fun i u hu => ?_⟩
    by_cases hi : i < n
    · rw [List.getElem?_append_left (by omega)] at hu
      exact hp i u hu
    · have hin : i = n := by
        have := (List.getElem?_eq_some_iff.1 hu).1
        rw [List.length_append, hl] at this
        simp at this
        omega
      subst hin
      rw [← hl, List.getElem?_append_right (Nat.le_refl _), Nat.sub_self] at hu
      simp at hu
      subst hu
      exact hv
theorem cellsO : Try.prog.cellsOf 31 = 3 := by kernel_rfl
def O.ok (o : O) : Prop := Nums.In64 o.p ∧ Nums.In64 o.r ∧ Nums.In64 o.n
theorem in64_wf {x : Int} (h : (Lit.int .i64 x).wf = true) : Nums.In64 x := by
  have := h
  simp [Lit.wf, IntKind.min, IntKind.max, IntKind.signed, IntKind.bits] at this
  unfold Nums.In64
  omega
section
variable {H : Type} {enc : TypeId × Value → H} {w : World} {base : Nat} {spare : Nat → Bool} {held : Bool}
theorem op_of {n : Nat} {cs : List Value} {x : DataW H × List MemPlace} (h : DataW.trod enc Try.prog w base spare held n 31 cs = some x) : ∃ o : O, cs = O.cells o ∧ o.ok := by
  obtain ⟨y0, y1, y2, m, hx, hl, h0, h1, h2⟩ := trod_struct3 Try.underlying31 h
  rw [cellsO] at hl
  match cs, hl with
  | [c0, c1, c2], _ =>
    have e0 : Try.prog.cellsOf 3 = 1 := by kernel_rfl
    simp only [e0, List.drop, List.take] at h0 h1 h2
    obtain ⟨a, ha, -, wa⟩ := DataW.trod_int Try.underlying3 h0
    obtain ⟨b, hb, -, wb⟩ := DataW.trod_int Try.underlying3 h1
    obtain ⟨c, hc, -, wc⟩ := DataW.trod_int Try.underlying3 h2
    simp only [List.cons.injEq, and_true] at ha hb hc
    subst ha hb hc
    exact ⟨⟨a, b, c⟩, rfl, in64_wf wa, in64_wf wb, in64_wf wc⟩
theorem open_ops {r : Reach} {b0 : Nat} {v : Value} {d : DataW H} {p : List MemPlace} (hval : Value.okWide Try.prog w r b0 22 v) (h : DataW.Trod enc Try.prog w base spare held 22 v d p) :
    ∃ A n c l, v = .slice A n c ∧ l.length = n ∧ Sl w w.heap.size 3 A n c (ops l) ∧ ∀ o ∈ l, o.ok := by
  obtain ⟨a0, n0, c0, rfl⟩ := okWide_slice Try.underlying22 hval
  obtain ⟨fuel, hf⟩ := h
  rcases open_slice Try.underlying22 hf with ⟨hcs, _⟩ | ⟨a, len, cap, m, n, D, Pl, hcs, hb, hl, hm, hmm, hx, hi⟩
  · have : (Value.slice a0 n0 c0) = .slice none 0 0 := by simpa [Value.cells] using hcs
    rw [this]
    exact ⟨none, 0, 0, [], rfl, rfl, ⟨rfl, Nat.le_refl _, by unfold maxLen; omega, fun _ => rfl, fun h => absurd h (by omega)⟩, fun o ho => by cases ho⟩
  · have e : (Value.slice a0 n0 c0) = .slice (some a) len cap := by simpa [Value.cells] using hcs
    rw [e]
    have hlm : len ≤ m := by rw [hmm]; split <;> omega
    obtain ⟨l, hll, hlp⟩ := list_of (fun i (u : O) => (∀ j c, (O.cells u)[j]? = some c → w.cell? (a.add (i * 3 + j)) = some c) ∧ u.ok) len (fun i hi' => by
      obtain ⟨cs', hc, ht⟩ := hi i (by omega)
      obtain ⟨u, rfl, hok⟩ := op_of ht
      rw [cellsO] at hc
      obtain ⟨_, hcl, hat⟩ := World.cells?_some hc
      refine ⟨u, fun j c hj => ?_, hok⟩
      have hj3 : j < 3 := by rw [← hcl]; exact (List.getElem?_eq_some_iff.1 hj).1
      rw [← add_two, hat j hj3, hj])
    refine ⟨some a, len, cap, l, rfl, hll, ⟨by rw [ops_len, hll], hl, hm, (fun e => by cases e), fun hn => ⟨a, rfl, ?_⟩⟩, fun u hu => ?_⟩
    · have hall : ∀ j u, (ops l)[j]? = some u → w.cell? (a.add j) = some u := by
        intro j u hu
        have hj : j < l.length * 3 := by rw [← ops_len]; exact (List.getElem?_eq_some_iff.1 hu).1
        have hq : l[j / 3]? = some (l[j / 3]'(by omega)) := List.getElem?_eq_getElem _
        have hr := ops_at l (j / 3) (j % 3) _ hq (by omega)
        have hjj : j / 3 * 3 + j % 3 = j := by omega
        rw [hjj] at hr
        rw [hr] at hu
        have := (hlp _ _ hq).1 _ _ hu
        rw [hjj] at this
        exact this
      refine ⟨?_, hall⟩
      have hq : l[0]? = some (l[0]'(by omega)) := List.getElem?_eq_getElem _
      have := World.block_lt_of_cell? w _ ((hlp 0 _ hq).1 0 _ rfl)
      rw [add_block] at this
      exact this
    · obtain ⟨i, hi', e⟩ := List.mem_iff_getElem.1 hu
      exact (hlp i u (by rw [← e]; exact List.getElem?_eq_getElem _)).2
theorem open_u16s {r : Reach} {b0 : Nat} {v : Value} {d : DataW H} {p : List MemPlace} (hval : Value.okWide Try.prog w r b0 42 v) (h : DataW.Trod enc Try.prog w base spare held 42 v d p) :
    ∃ A n c, ∃ l : List Int, v = .slice A n c ∧ l.length = n ∧ Sl w w.heap.size 1 A n c (l.map (Value.int .u16)) ∧ ∀ z ∈ l, 0 ≤ z ∧ z ≤ 65535 := by
  obtain ⟨a0, n0, c0, rfl⟩ := okWide_slice Try.underlying42 hval
  obtain ⟨fuel, hf⟩ := h
  rcases open_ints Try.underlying42 Try.underlying43 (by kernel_rfl) hf with ⟨hcs, _⟩ | ⟨a, len, cap, zs, hcs, hb, hl, hm, hz, hx, hc, hw⟩
  · have : (Value.slice a0 n0 c0) = .slice none 0 0 := by simpa [Value.cells] using hcs
    rw [this]
    exact ⟨none, 0, 0, [], rfl, rfl, ⟨rfl, Nat.le_refl _, by unfold maxLen; omega, fun _ => rfl, fun h => absurd h (by omega)⟩, fun z hz => by cases hz⟩
  · have e : (Value.slice a0 n0 c0) = .slice (some a) len cap := by simpa [Value.cells] using hcs
    rw [e]
    have hlz : len ≤ zs.length := by rw [hz]; split <;> omega
    refine ⟨some a, len, cap, zs.take len, rfl, by rw [List.length_take]; omega, ⟨by rw [List.length_map, List.length_take]; omega, hl, hm, (fun e => by cases e), fun hn => ⟨a, rfl, ?_, ?_⟩⟩, fun z hz => ?_⟩
    · have := World.block_lt_of_cell? w _ (hc 0 (by omega))
      rw [add_block] at this
      exact this
    · intro j u hu
      rw [List.getElem?_map] at hu
      cases hq : (zs.take len)[j]? with
      | none => rw [hq] at hu; cases hu
      | some z =>
        rw [hq] at hu
        injection hu with hu
        subst hu
        obtain ⟨hj, hz⟩ := List.getElem?_eq_some_iff.1 hq
        rw [List.length_take] at hj
        have h1 := hc j (by omega)
        rw [List.getElem_take] at hz
        rw [h1, List.getD, List.getElem?_eq_getElem (by omega), hz]
        rfl
    · have hw' := hw z (List.mem_of_mem_take hz)
      simp [Lit.wf, IntKind.min, IntKind.max, IntKind.signed, IntKind.bits] at hw'
      omega
end
end Go.Proofs.Ytghlconkmbmflaa.Room
