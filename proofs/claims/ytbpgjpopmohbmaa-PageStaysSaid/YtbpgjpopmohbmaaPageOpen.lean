/- A version, a place among the arguments: opened. -/
import Derived.Test.YtbpgjpopmohbmaaPageT
import Derived.ProofKit
import Derived.OpenShut
import Derived.Carry
import Derived.ChangeSlices
import Derived.Lib.SmallJoins
import Derived.Deep.Strs
namespace Go.Proofs.Ytbpgjpopmohbmaa.Mem
open Go.RowKit Go.Proofs.Ytbpgjpopmohbmaa.Nums Go.ChangeShapes Go.WideShapes Go.Deep Go.Joins
set_option linter.unusedVariables false
set_option linter.unusedSimpArgs false
set_option maxRecDepth 100000
theorem list_of {α : Type} (P : Nat → α → Prop) : ∀ n, (∀ i, i < n → ∃ v, P i v) → ∃ l : List α, l.length = n ∧ ∀ i v, l[i]? = some v → P i v
  | 0, _ => ⟨[], rfl, fun i v h => by simp at h⟩
  | n + 1, h => by
    obtain ⟨l, hl, hp⟩ := list_of P n (fun i hi => h i (by omega))
    obtain ⟨v, hv⟩ := h n (by omega)
    refine ⟨l ++ [v], by simp [hl], fun i u hu => ?_⟩
    by_cases hi : i < n
    · rw [List.getElem?_append_left (by omega)] at hu
      exact hp i u hu
    · have hin : i = n := by
        have := (List.getElem?_eq_some_iff.1 hu).1
        rw [List.length_append, hl] at this
        simp at this
        omega
      subst hin
      rw [← hl, List.getElem?_append_right (Nat.le_refl _), Nat.sub_self] at hu
      simp at hu
      subst hu
      exact hv
theorem u64_nat {x : Int} (h : (Lit.int .u64 x).wf = true) : ∃ n : Nat, x = n ∧ n < 18446744073709551616 := by
  have := h
  simp [Lit.wf, IntKind.min, IntKind.max, IntKind.signed, IntKind.bits] at this
  exact ⟨x.toNat, by omega, by omega⟩
theorem array6 {α : Type} {cs : Array α} (h : cs.size = 6) : ∃ c0 c1 c2 c3 c4 c5, cs = #[c0, c1, c2, c3, c4, c5] := by
  obtain ⟨l⟩ := cs
  match l, h with
  | [c0, c1, c2, c3, c4, c5], _ => exact ⟨c0, c1, c2, c3, c4, c5, rfl⟩
section
variable {H : Type} {enc : TypeId × Value → H} {w : World} {base : Nat} {spare : Nat → Bool} {held : Bool}
theorem bytes_of {n : Nat} {cs : List Value} {y : DataW H × List MemPlace} (hf : DataW.trod enc Try.prog w base spare held n 31 cs = some y) :
    ∃ A m c x, cs = [.slice A m c] ∧ x.length = m ∧ Sl w w.heap.size 1 A m c (u8s x) := by
  rcases open_ints Try.underlying31 Try.underlying5 (by kernel_rfl) hf with ⟨hcs, _⟩ | ⟨a, len, cap, zs, hcs, hb, hl, hm, hz, hx, hc, hw⟩
  · exact ⟨none, 0, 0, [], hcs, rfl, ⟨rfl, Nat.le_refl _, by unfold maxLen; omega, fun _ => rfl, fun h => absurd h (by omega)⟩⟩
  · have hlz : len ≤ zs.length := by rw [hz]; split <;> omega
    obtain ⟨x, hxl, hxp⟩ := list_of (fun i (u : UInt8) => w.cell? (a.add i) = some (.int .u8 (u.toNat : Int))) len (fun i hi => by
      have hw' := hw (zs.getD i 0) (by rw [List.getD, List.getElem?_eq_getElem (by omega)]; exact List.getElem_mem _)
      have hb : 0 ≤ zs.getD i 0 ∧ zs.getD i 0 ≤ 255 := by
        have := hw'
        simp [Lit.wf, IntKind.min, IntKind.max, IntKind.signed, IntKind.bits] at this
        simp
        omega
      refine ⟨UInt8.ofNat (zs.getD i 0).toNat, ?_⟩
      rw [hc i (by omega)]
      congr 2
      rw [UInt8.toNat_ofNat']
      omega)
    refine ⟨some a, len, cap, x, hcs, hxl, ⟨by rw [u8s_len, hxl, Nat.mul_one], hl, hm, (fun e => by cases e), fun hn => ⟨a, rfl, ?_, ?_⟩⟩⟩
    · have := World.block_lt_of_cell? w _ (hxp 0 _ (List.getElem?_eq_getElem (by omega)))
      rw [add_block] at this
      exact this
    · intro j u hu
      have hj : j < x.length := by have := (List.getElem?_eq_some_iff.1 hu).1; rw [u8s_len] at this; exact this
      have hq : x[j]? = some (x[j]'hj) := List.getElem?_eq_getElem _
      have : (u8s x)[j]? = some (.int .u8 ((x[j]'hj).toNat : Int)) := by simp [u8s, hq]
      rw [this] at hu
      injection hu with hu
      rw [← hu]
      exact hxp j _ hq
theorem tid_of {n : Nat} {c3 c4 : Value} {y : DataW H × List MemPlace} (h : DataW.trod enc Try.prog w base spare held n 30 [c3, c4] = some y) : ∃ p s : Int, c3 = .int .i64 p ∧ c4 = .int .i64 s := by
  obtain ⟨y0, y1, m, hx, hl, h0, h1⟩ := trod_struct2 Try.underlying30 h
  have e0 : Try.prog.cellsOf 3 = 1 := by kernel_rfl
  simp only [e0, List.drop, List.take] at h0 h1
  obtain ⟨a, ha, -, wa⟩ := DataW.trod_int Try.underlying3 h0
  obtain ⟨b, hb, -, wb⟩ := DataW.trod_int Try.underlying3 h1
  simp only [List.cons.injEq, and_true] at ha hb
  exact ⟨a, b, ha, hb⟩
theorem open_tid {r : Reach} {b0 : Nat} {v : Value} {d : DataW H} {p : List MemPlace} (hval : Value.okWide Try.prog w r b0 30 v) (h : DataW.Trod enc Try.prog w base spare held 30 v d p) :
    ∃ p2 s2 : Int, v = .agg #[.int .i64 p2, .int .i64 s2] := by
  obtain ⟨cs, rfl, hsz⟩ := okWide_struct Try.underlying30 hval
  obtain ⟨c0, c1, rfl⟩ := array2 (hsz.trans (show Try.prog.cellsOf 30 = 2 by kernel_rfl))
  obtain ⟨fuel, hf⟩ := h
  obtain ⟨p2, s2, rfl, rfl⟩ := tid_of (c3 := c0) (c4 := c1) hf
  exact ⟨p2, s2, rfl⟩
theorem open_tuple {r : Reach} {b0 : Nat} {v : Value} {dd : DataW H} {pp : List MemPlace} (hval : Value.okWide Try.prog w r b0 33 v) (h : DataW.Trod enc Try.prog w base spare held 33 v dd pp) :
    ∃ (a b c : Nat) (p s : Int) (A : Option Addr) (n k : Nat) (x : List UInt8), v = .agg #[.int .u64 a, .int .u64 b, .int .u64 c, .int .i64 p, .int .i64 s, .slice A n k] ∧ x.length = n ∧ Sl w w.heap.size 1 A n k (u8s x) ∧ a < 18446744073709551616 ∧ b < 18446744073709551616 ∧ c < 18446744073709551616 := by
  obtain ⟨cs, rfl, hsz⟩ := okWide_struct Try.underlying33 hval
  obtain ⟨c0, c1, c2, c3, c4, c5, rfl⟩ := array6 (hsz.trans (show Try.prog.cellsOf 33 = 6 by kernel_rfl))
  obtain ⟨fuel, hf⟩ := h
  obtain ⟨xs, n, _, _, hl, hlen, hfs⟩ := DataW.trod_struct Try.underlying33 hf
  match xs, hlen with
  | [y0, y1, y2, y3, y4], _ =>
    have h0 := hfs 0 _ rfl
    have h1 := hfs 1 _ rfl
    have h2 := hfs 2 _ rfl
    have h3 := hfs 3 _ rfl
    have h4 := hfs 4 _ rfl
    have e0 : Try.prog.cellsOf 28 = 1 := by kernel_rfl
    have e1 : Try.prog.cellsOf 30 = 2 := by kernel_rfl
    have e2 : Try.prog.cellsOf 31 = 1 := by kernel_rfl
    simp [e0, e1, e2, Value.cells] at h0 h1 h2 h3 h4
    obtain ⟨a, ha, -, wa⟩ := DataW.trod_int Try.underlying28 h0
    obtain ⟨b, hb, -, wb⟩ := DataW.trod_int Try.underlying28 h1
    obtain ⟨c, hc, -, wc⟩ := DataW.trod_int Try.underlying28 h2
    obtain ⟨p, s, hp, hs⟩ := tid_of h3
    obtain ⟨A, m, k, x, hx, hxl, hxs⟩ := bytes_of h4
    simp only [List.cons.injEq, and_true] at ha hb hc hx
    obtain ⟨a, rfl, la⟩ := u64_nat wa
    obtain ⟨b, rfl, lb⟩ := u64_nat wb
    obtain ⟨c, rfl, lc⟩ := u64_nat wc
    subst ha hb hc hp hs hx
    exact ⟨a, b, c, p, s, A, m, k, x, rfl, hxl, hxs, la, lb, lc⟩
end
end Go.Proofs.Ytbpgjpopmohbmaa.Mem
