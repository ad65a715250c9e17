/- Truths among the arguments: opened. -/
import Derived.Test.YtnpmjljpaaaljaaOpenC
namespace Go.Proofs.Ytnpmjljpaaaljaa.Bok
open Go.Proofs.Ytnpmjljpaaaljaa.Clg (list_of add_off blk_off)
open Go.RowKit Go.Proofs.Ytnpmjljpaaaljaa.Nums Go.Proofs.Ytnpmjljpaaaljaa.Mem Go.ChangeShapes Go.WideShapes Go.Deep Go.Joins
set_option linter.unusedVariables false
set_option linter.unusedSimpArgs false
set_option maxRecDepth 100000
structure Bq where
  z : Bool
def Bq.cells (o : Bq) : List Value := [.bool o.z]
def Bq.ok (o : Bq) : Prop := True
def bq_s (l : List Bq) : List Value := l.flatMap Bq.cells
theorem bq_len (l : List Bq) : (bq_s l).length = l.length * 1 := by
  induction l with
  | nil => rfl
  | cons o l ih => show (o.cells ++ bq_s l).length = _; rw [List.length_append, ih, List.length_cons]; show 1 + _ = _; omega
theorem bq_at : ∀ (l : List Bq) (k : Nat) (o : Bq), l[k]? = some o → ∀ j, j < 1 → (bq_s l)[k * 1 + j]? = o.cells[j]?
  | [], k, o, h, j, hj => by simp at h
  | y :: l, 0, o, h, j, hj => by
    simp at h; subst h
    show (y.cells ++ bq_s l)[0 * 1 + j]? = _
    rw [Nat.zero_mul, Nat.zero_add, List.getElem?_append_left (show j < y.cells.length from hj)]
  | y :: l, k + 1, o, h, j, hj => by
    show (y.cells ++ bq_s l)[(k + 1) * 1 + j]? = _
    have e : y.cells.length = 1 := rfl
    rw [List.getElem?_append_right (by omega), e, show (k + 1) * 1 + j - 1 = k * 1 + j by omega]
    exact bq_at l k o (by simpa using h) j hj
theorem cells_bq : Try.prog.cellsOf 4 = 1 := by kernel_rfl
section
variable {H : Type} {enc : TypeId × Value → H} {w : World} {base : Nat} {spare : Nat → Bool} {held : Bool}
theorem bq_of {n : Nat} {cs : List Value} {y : DataW H × List MemPlace} (h : DataW.trod enc Try.prog w base spare held n 4 cs = some y) : ∃ o : Bq, cs = o.cells ∧ o.ok := by
  obtain ⟨b0, hb0, -⟩ := DataW.trod_bool Try.underlying4 h
  subst hb0
  exact ⟨⟨b0⟩, rfl, trivial⟩
theorem open_bq {r : Reach} {b0 : Nat} {v : Value} {d : DataW H} {p : List MemPlace} (hval : Value.okWide Try.prog w r b0 60 v) (h : DataW.Trod enc Try.prog w base spare held 60 v d p) :
    ∃ A n c l, v = .slice A n c ∧ l.length = n ∧ Sl w w.heap.size 1 A n c (bq_s l) ∧ ∀ o ∈ l, o.ok := by
  obtain ⟨a0, n0, c0, rfl⟩ := okWide_slice Try.underlying60 hval
  obtain ⟨fuel, hf⟩ := h
  rcases open_slice Try.underlying60 hf with ⟨hcs, _⟩ | ⟨a, len, cap, m, n, D, Pl, hcs, hb, hl, hm, hmm, hx, hi⟩
  · have : (Value.slice a0 n0 c0) = .slice none 0 0 := by simpa [Value.cells] using hcs
    rw [this]
    exact ⟨none, 0, 0, [], rfl, rfl, ⟨rfl, Nat.le_refl _, by unfold maxLen; omega, fun _ => rfl, fun h => absurd h (by omega)⟩, fun o ho => by cases ho⟩
  · have e : (Value.slice a0 n0 c0) = .slice (some a) len cap := by simpa [Value.cells] using hcs
    rw [e]
    have hlm : len ≤ m := by rw [hmm]; split <;> omega
    obtain ⟨l, hll, hlp⟩ := list_of (fun i (u : Bq) => (∀ j c, (Bq.cells u)[j]? = some c → w.cell? (a.add (i * 1 + j)) = some c) ∧ u.ok) len (fun i hi' => by
      obtain ⟨cs', hc, ht⟩ := hi i (by omega)
      obtain ⟨u, rfl, hok⟩ := bq_of ht
      rw [cells_bq] at hc
      obtain ⟨_, hcl, hat⟩ := World.cells?_some hc
      refine ⟨u, fun j c hj => ?_, hok⟩
      have hj3 : j < 1 := by rw [← hcl]; exact (List.getElem?_eq_some_iff.1 hj).1
      rw [← add_off, hat j hj3, hj])
    refine ⟨some a, len, cap, l, rfl, hll, ⟨by rw [bq_len, hll], hl, hm, (fun e => by cases e), fun hn => ⟨a, rfl, ?_⟩⟩, fun u hu => ?_⟩
    · have hall : ∀ j u, (bq_s l)[j]? = some u → w.cell? (a.add j) = some u := by
        intro j u hu
        have hj : j < l.length * 1 := by rw [← bq_len]; exact (List.getElem?_eq_some_iff.1 hu).1
        have hq : l[j / 1]? = some (l[j / 1]'(by omega)) := List.getElem?_eq_getElem _
        have hr := bq_at l (j / 1) _ hq (j % 1) (by omega)
        have hjj : j / 1 * 1 + j % 1 = j := by omega
        rw [hjj] at hr
        rw [hr] at hu
        have := (hlp _ _ hq).1 _ _ hu
        rw [hjj] at this
        exact this
      refine ⟨?_, hall⟩
      have hq : l[0]? = some (l[0]'(by omega)) := List.getElem?_eq_getElem _
      have := World.block_lt_of_cell? w _ ((hlp 0 _ hq).1 0 _ rfl)
      rw [blk_off] at this
      exact this
    · obtain ⟨i, hi', e⟩ := List.mem_iff_getElem.1 hu
      exact (hlp i u (by rw [← e]; exact List.getElem?_eq_getElem _)).2
end
theorem bq_cells {w w' : World} {A : Option Addr} {n c : Nat} {l : List Bq} (h : Sl w w.heap.size 1 A n c (bq_s l)) (hb : Below w.heap.size w w') {k : Nat} {o : Bq} (ho : l[k]? = some o) (hn : l.length = n) : ∃ ad, A = some ad ∧ w'.cell? (ad.add (k * 1)) = some (.bool o.z) := by
  have hk := (List.getElem?_eq_some_iff.1 ho).1
  obtain ⟨ad, hA, hat⟩ := h.at_ (by omega)
  have key : ∀ j y, o.cells[j]? = some y → j < 1 → w'.cell? (ad.add (k * 1 + j)) = some y := fun j y hy hj => (hat.below hb).2 (k * 1 + j) y (by rw [bq_at l k o ho j hj]; exact hy)
  exact ⟨ad, hA, key 0 _ rfl (by omega)⟩
end Go.Proofs.Ytnpmjljpaaaljaa.Bok
