/- A slice of rows among the arguments: opened. -/
import Derived.Test.YtcffpinelpllhaaDoorOpen
namespace Go.Proofs.YtcffpinelpllhaaDoor.Mem
open Go.RowKit Go.Proofs.YtcffpinelpllhaaDoor.Nums Go.ChangeShapes Go.WideShapes Go.Deep Go.Joins
set_option linter.unusedVariables false
set_option linter.unusedSimpArgs false
set_option maxRecDepth 100000
theorem cellsR : Tryd.prog.cellsOf 22 = 1 := by kernel_rfl
section
variable {H : Type} {enc : TypeId × Value → H} {w : World} {base : Nat} {spare : Nat → Bool} {held : Bool}
structure R where
  A : Option Addr
  n : Nat
  c : Nat
  l : List V
def R.val (r : R) : Value := .slice r.A r.n r.c
def R.ok (w : World) (r : R) : Prop := r.l.length = r.n ∧ Sl w w.heap.size 4 r.A r.n r.c (vals r.l) ∧ ∀ u ∈ r.l, u.ok
theorem open_rows {r : Reach} {b0 : Nat} {v : Value} {d : DataW H} {p : List MemPlace} (hval : Value.okWide Tryd.prog w r b0 45 v) (h : DataW.Trod enc Tryd.prog w base spare held 45 v d p) :
    ∃ (A : Option Addr) (n c : Nat) (L : List R), v = .slice A n c ∧ Sl w w.heap.size 1 A n c (L.map R.val) ∧ ∀ q ∈ L, R.ok w q := by
  obtain ⟨a0, n0, c0, rfl⟩ := okWide_slice Tryd.underlying45 hval
  obtain ⟨fuel, hf⟩ := h
  rcases open_slice Tryd.underlying45 hf with ⟨hcs, _⟩ | ⟨a, len, cap, m, n, D, Pl, hcs, hb, hl, hm, hmm, hx, hi⟩
  · have : (Value.slice a0 n0 c0) = .slice none 0 0 := by simpa [Value.cells] using hcs
    rw [this]
    exact ⟨none, 0, 0, [], rfl, ⟨rfl, Nat.le_refl _, by unfold maxLen; omega, fun _ => rfl, fun h => absurd h (by omega)⟩, fun u hu => by cases hu⟩
  · have e : (Value.slice a0 n0 c0) = .slice (some a) len cap := by simpa [Value.cells] using hcs
    rw [e]
    have hlm : len ≤ m := by rw [hmm]; split <;> omega
    obtain ⟨L, hll, hlp⟩ := list_of (fun i (q : R) => w.cell? (a.add i) = some q.val ∧ R.ok w q) len (fun i hi' => by
      obtain ⟨cs', hc, ht⟩ := hi i (by omega)
      obtain ⟨A', n', c', l', rfl, h1, h2, h3⟩ := row_of ht
      rw [cellsR] at hc
      obtain ⟨_, hcl, hat⟩ := World.cells?_some hc
      refine ⟨⟨A', n', c', l'⟩, ?_, h1, h2, h3⟩
      have h0 := hat 0 (by omega)
      rw [add_two] at h0
      show w.cell? (a.add i) = some (.slice A' n' c')
      simpa using h0)
    refine ⟨some a, len, cap, L, rfl, ⟨by rw [List.length_map, hll, Nat.mul_one], hl, hm, (fun e => by cases e), fun hn => ⟨a, rfl, ?_, ?_⟩⟩, fun u hu => ?_⟩
    · have hq : L[0]? = some (L[0]'(by omega)) := List.getElem?_eq_getElem _
      have := World.block_lt_of_cell? w _ (hlp 0 _ hq).1
      rw [add_block] at this
      exact this
    · intro j u hu
      rw [List.getElem?_map] at hu
      cases hq : L[j]? with
      | none => rw [hq] at hu; cases hu
      | some q =>
        rw [hq] at hu
        injection hu with hu
        rw [← hu]
        exact (hlp j q hq).1
    · obtain ⟨i, hi', e⟩ := List.mem_iff_getElem.1 hu
      exact (hlp i u (by rw [← e]; exact List.getElem?_eq_getElem _)).2
end
end Go.Proofs.YtcffpinelpllhaaDoor.Mem
