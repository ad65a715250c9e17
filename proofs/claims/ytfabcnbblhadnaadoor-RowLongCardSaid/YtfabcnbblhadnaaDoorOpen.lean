/- A slice of values, of bytes, among the arguments: opened. -/
import Derived.Test.YtfabcnbblhadnaaDoorVals
import Derived.ProofKit
import Derived.OpenShut
import Derived.Carry
import Derived.Lib.SmallJoins
namespace Go.Proofs.YtfabcnbblhadnaaDoor.Mem
open Go.RowKit Go.Proofs.YtfabcnbblhadnaaDoor.Nums Go.ChangeShapes Go.WideShapes Go.Deep Go.Joins
set_option linter.unusedVariables false
set_option linter.unusedSimpArgs false
set_option maxRecDepth 100000
theorem list_of {α : Type} (P : Nat → α → Prop) : ∀ n, (∀ i, i < n → ∃ v, P i v) → ∃ l : List α, l.length = n ∧ ∀ i v, l[i]? = some v → P i v
  | 0, _ => ⟨[], rfl, fun i v h => by simp at h⟩
  | n + 1, h => by
    obtain ⟨l, hl, hp⟩ := list_of P n (fun i hi => h i (by omega))
    obtain ⟨v, hv⟩ := h n (by omega)
    refine ⟨l ++ [v], by simp [hl], fun i u hu => ?_⟩
    by_cases hi : i < n
    · rw [List.getElem?_append_left (by omega)] at hu
      exact hp i u hu
    · have hin : i = n := by
        have := (List.getElem?_eq_some_iff.1 hu).1
        rw [List.length_append, hl] at this
        simp at this
        omega
      subst hin
      rw [← hl, List.getElem?_append_right (Nat.le_refl _), Nat.sub_self] at hu
      simp at hu
      subst hu
      exact hv
theorem in64_wf {x : Int} (h : (Lit.int .i64 x).wf = true) : Nums.In64 x := by
  have := h
  simp [Lit.wf, IntKind.min, IntKind.max, IntKind.signed, IntKind.bits] at this
  unfold Nums.In64
  omega
theorem cellsV : Tryd.prog.cellsOf 43 = 4 := by kernel_rfl
section
variable {H : Type} {enc : TypeId × Value → H} {w : World} {base : Nat} {spare : Nat → Bool} {held : Bool}
theorem val_of {n : Nat} {cs : List Value} {x : DataW H × List MemPlace} (h : DataW.trod enc Tryd.prog w base spare held n 43 cs = some x) : ∃ v : V, cs = V.cells v ∧ v.ok := by
  obtain ⟨y0, y1, y2, y3, m, hx, hl, h0, h1, h2, h3⟩ := trod_struct4 Tryd.underlying43 h
  rw [cellsV] at hl
  match cs, hl with
  | [c0, c1, c2, c3], _ =>
    have e0 : Tryd.prog.cellsOf 41 = 1 := by kernel_rfl
    have e1 : Tryd.prog.cellsOf 2 = 1 := by kernel_rfl
    have e2 : Tryd.prog.cellsOf 9 = 1 := by kernel_rfl
    have e3 : Tryd.prog.cellsOf 4 = 1 := by kernel_rfl
    simp only [e0, e1, e2, e3, List.drop, List.take] at h0 h1 h2 h3
    obtain ⟨a, ha, -, -⟩ := DataW.trod_int Tryd.underlying41 h0
    obtain ⟨b, hb, -, wb⟩ := DataW.trod_int Tryd.underlying2 h1
    obtain ⟨s, hs, -, ws⟩ := DataW.trod_string Tryd.underlying9 h2
    obtain ⟨t, ht, -⟩ := DataW.trod_bool Tryd.underlying4 h3
    simp only [List.cons.injEq, and_true] at ha hb hs ht
    subst ha hb hs ht
    exact ⟨⟨a, b, s, t⟩, rfl, in64_wf wb, ws⟩
theorem row_of {fuel : Nat} {cs : List Value} {x : DataW H × List MemPlace} (hf : DataW.trod enc Tryd.prog w base spare held fuel 22 cs = some x) :
    ∃ A n c l, cs = [.slice A n c] ∧ l.length = n ∧ Sl w w.heap.size 4 A n c (vals l) ∧ ∀ u ∈ l, u.ok := by
  rcases open_slice Tryd.underlying22 hf with ⟨hcs, _⟩ | ⟨a, len, cap, m, n, D, Pl, hcs, hb, hl, hm, hmm, hx, hi⟩
  · exact ⟨none, 0, 0, [], hcs, rfl, ⟨rfl, Nat.le_refl _, by unfold maxLen; omega, fun _ => rfl, fun h => absurd h (by omega)⟩, fun u hu => by cases hu⟩
  · have hlm : len ≤ m := by rw [hmm]; split <;> omega
    obtain ⟨l, hll, hlp⟩ := list_of (fun i (u : V) => (∀ j c, (V.cells u)[j]? = some c → w.cell? (a.add (i * 4 + j)) = some c) ∧ u.ok) len (fun i hi' => by
      obtain ⟨cs', hc, ht⟩ := hi i (by omega)
      obtain ⟨u, rfl, hok⟩ := val_of ht
      rw [cellsV] at hc
      obtain ⟨_, hcl, hat⟩ := World.cells?_some hc
      refine ⟨u, fun j c hj => ?_, hok⟩
      have hj4 : j < 4 := by rw [← hcl]; exact (List.getElem?_eq_some_iff.1 hj).1
      rw [← add_two, hat j hj4, hj])
    refine ⟨some a, len, cap, l, hcs, hll, ⟨by rw [vals_len, hll], hl, hm, (fun e => by cases e), fun hn => ⟨a, rfl, ?_⟩⟩, fun u hu => ?_⟩
    · have hall : ∀ j u, (vals l)[j]? = some u → w.cell? (a.add j) = some u := by
        intro j u hu
        have hj : j < l.length * 4 := by rw [← vals_len]; exact (List.getElem?_eq_some_iff.1 hu).1
        have hq : l[j / 4]? = some (l[j / 4]'(by omega)) := List.getElem?_eq_getElem _
        have hr := vals_at l (j / 4) (j % 4) _ hq (by omega)
        have hjj : j / 4 * 4 + j % 4 = j := by omega
        rw [hjj] at hr
        rw [hr] at hu
        have := (hlp _ _ hq).1 _ _ hu
        rw [hjj] at this
        exact this
      refine ⟨?_, hall⟩
      have hq : l[0]? = some (l[0]'(by omega)) := List.getElem?_eq_getElem _
      have := World.block_lt_of_cell? w _ ((hlp 0 _ hq).1 0 _ rfl)
      rw [add_block] at this
      exact this
    · obtain ⟨i, hi', e⟩ := List.mem_iff_getElem.1 hu
      exact (hlp i u (by rw [← e]; exact List.getElem?_eq_getElem _)).2
theorem open_row {r : Reach} {b0 : Nat} {v : Value} {d : DataW H} {p : List MemPlace} (hval : Value.okWide Tryd.prog w r b0 22 v) (h : DataW.Trod enc Tryd.prog w base spare held 22 v d p) :
    ∃ A n c l, v = .slice A n c ∧ l.length = n ∧ Sl w w.heap.size 4 A n c (vals l) ∧ ∀ u ∈ l, u.ok := by
  obtain ⟨a0, n0, c0, rfl⟩ := okWide_slice Tryd.underlying22 hval
  obtain ⟨fuel, hf⟩ := h
  obtain ⟨A, n, c, l, hcs, h⟩ := row_of hf
  have : (Value.slice a0 n0 c0) = .slice A n c := by simpa [Value.cells] using hcs
  exact ⟨A, n, c, l, this, h⟩
theorem open_bytes {r : Reach} {b0 : Nat} {v : Value} {d : DataW H} {p : List MemPlace} (hval : Value.okWide Tryd.prog w r b0 24 v) (h : DataW.Trod enc Tryd.prog w base spare held 24 v d p) :
    ∃ A n c x, v = .slice A n c ∧ x.length = n ∧ Sl w w.heap.size 1 A n c (u8s x) := by
  obtain ⟨a0, n0, c0, rfl⟩ := okWide_slice Tryd.underlying24 hval
  obtain ⟨fuel, hf⟩ := h
  rcases open_ints Tryd.underlying24 Tryd.underlying5 (by kernel_rfl) hf with ⟨hcs, _⟩ | ⟨a, len, cap, zs, hcs, hb, hl, hm, hz, hx, hc, hw⟩
  · have : (Value.slice a0 n0 c0) = .slice none 0 0 := by simpa [Value.cells] using hcs
    rw [this]
    exact ⟨none, 0, 0, [], rfl, rfl, ⟨rfl, Nat.le_refl _, by unfold maxLen; omega, fun _ => rfl, fun h => absurd h (by omega)⟩⟩
  · have e : (Value.slice a0 n0 c0) = .slice (some a) len cap := by simpa [Value.cells] using hcs
    rw [e]
    have hlz : len ≤ zs.length := by rw [hz]; split <;> omega
    obtain ⟨x, hxl, hxp⟩ := list_of (fun i (u : UInt8) => w.cell? (a.add i) = some (.int .u8 (u.toNat : Int))) len (fun i hi => by
      have hw' := hw (zs.getD i 0) (by rw [List.getD, List.getElem?_eq_getElem (by omega)]; exact List.getElem_mem _)
      have hb : 0 ≤ zs.getD i 0 ∧ zs.getD i 0 ≤ 255 := by
        have := hw'
        simp [Lit.wf, IntKind.min, IntKind.max, IntKind.signed, IntKind.bits] at this
        simp
        omega
      refine ⟨UInt8.ofNat (zs.getD i 0).toNat, ?_⟩
      rw [hc i (by omega)]
      congr 2
      rw [UInt8.toNat_ofNat']
      omega)
    refine ⟨some a, len, cap, x, rfl, hxl, ⟨by rw [u8s_len, hxl, Nat.mul_one], hl, hm, (fun e => by cases e), fun hn => ⟨a, rfl, ?_, ?_⟩⟩⟩
    · have := World.block_lt_of_cell? w _ (hxp 0 _ (List.getElem?_eq_getElem (by omega)))
      rw [add_block] at this
      exact this
    · intro j u hu
      have hj : j < x.length := by have := (List.getElem?_eq_some_iff.1 hu).1; rw [u8s_len] at this; exact this
      have hq : x[j]? = some (x[j]'hj) := List.getElem?_eq_getElem _
      have : (u8s x)[j]? = some (.int .u8 ((x[j]'hj).toNat : Int)) := by simp [u8s, hq]
      rw [this] at hu
      injection hu with hu
      rw [← hu]
      exact hxp j _ hq
end
end Go.Proofs.YtfabcnbblhadnaaDoor.Mem
