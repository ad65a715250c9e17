/- A script's operations among the arguments: opened. -/
import Derived.Test.YtbpgjpopmohbmaaOpenB
namespace Go.Proofs.Ytbpgjpopmohbmaa.Mem
open Go.RowKit Go.Proofs.Ytbpgjpopmohbmaa.Nums Go.ChangeShapes Go.WideShapes Go.Deep Go.Joins
set_option linter.unusedVariables false
set_option linter.unusedSimpArgs false
set_option maxRecDepth 100000
/-- an operation: its number, its slot, its version with the Data's slice and the Data -/
structure Op5 where
  z : Int
  i : Int
  r : Nat
  a : Nat
  b : Nat
  p : Int
  s : Int
  A : Option Addr
  n : Nat
  c : Nat
  x : List UInt8
def Op5.cells (o : Op5) : List Value := [.int .u8 o.z, .int .i64 o.i, .int .u64 o.r, .int .u64 o.a, .int .u64 o.b, .int .i64 o.p, .int .i64 o.s, .slice o.A o.n o.c]
structure Op5.ok (o : Op5) (w : World) : Prop where
  z : 0 ≤ o.z ∧ o.z ≤ 255
  i : Nums.In64 o.i
  r : o.r < 18446744073709551616
  a : o.a < 18446744073709551616
  b : o.b < 18446744073709551616
  len : o.x.length = o.n
  sl : Sl w w.heap.size 1 o.A o.n o.c (u8s o.x)
def ops5 (l : List Op5) : List Value := l.flatMap Op5.cells
theorem ops5_len (l : List Op5) : (ops5 l).length = l.length * 8 := by
  induction l with
  | nil => rfl
  | cons o l ih => show (o.cells ++ ops5 l).length = _; rw [List.length_append, ih, List.length_cons]; show 8 + _ = _; omega
theorem ops5_at : ∀ (l : List Op5) (k : Nat) (o : Op5), l[k]? = some o → ∀ j, j < 8 → (ops5 l)[k * 8 + j]? = o.cells[j]?
  | [], k, o, h, j, hj => by simp at h
  | y :: l, 0, o, h, j, hj => by
    simp at h; subst h
    show (y.cells ++ ops5 l)[0 * 8 + j]? = _
    rw [Nat.zero_mul, Nat.zero_add, List.getElem?_append_left (show j < y.cells.length from hj)]
  | y :: l, k + 1, o, h, j, hj => by
    show (y.cells ++ ops5 l)[(k + 1) * 8 + j]? = _
    have e : y.cells.length = 8 := rfl
    rw [List.getElem?_append_right (by omega), e, show (k + 1) * 8 + j - 8 = k * 8 + j by omega]
    exact ops5_at l k o (by simpa using h) j hj
theorem cellsO5 : Try.prog.cellsOf 35 = 8 := by kernel_rfl
theorem i64_in {x : Int} (h : (Lit.int .i64 x).wf = true) : Nums.In64 x := by
  have := h
  simp [Lit.wf, IntKind.min, IntKind.max, IntKind.signed, IntKind.bits] at this
  unfold Nums.In64
  omega
theorem u8_in {x : Int} (h : (Lit.int .u8 x).wf = true) : 0 ≤ x ∧ x ≤ 255 := by
  have := h
  simp [Lit.wf, IntKind.min, IntKind.max, IntKind.signed, IntKind.bits] at this
  omega
section
variable {H : Type} {enc : TypeId × Value → H} {w : World} {base : Nat} {spare : Nat → Bool} {held : Bool}
theorem tuple_of {n : Nat} {c0 c1 c2 c3 c4 c5 : Value} {y : DataW H × List MemPlace} (hf : DataW.trod enc Try.prog w base spare held n 33 [c0, c1, c2, c3, c4, c5] = some y) :
    ∃ (a b c : Nat) (p s : Int) (A : Option Addr) (m k : Nat) (x : List UInt8), c0 = .int .u64 a ∧ c1 = .int .u64 b ∧ c2 = .int .u64 c ∧ c3 = .int .i64 p ∧ c4 = .int .i64 s ∧ c5 = .slice A m k ∧ x.length = m ∧ Sl w w.heap.size 1 A m k (u8s x) ∧ a < 18446744073709551616 ∧ b < 18446744073709551616 ∧ c < 18446744073709551616 := by
  obtain ⟨xs, n, _, _, hl, hlen, hfs⟩ := DataW.trod_struct Try.underlying33 hf
  match xs, hlen with
  | [y0, y1, y2, y3, y4], _ =>
    have h0 := hfs 0 _ rfl
    have h1 := hfs 1 _ rfl
    have h2 := hfs 2 _ rfl
    have h3 := hfs 3 _ rfl
    have h4 := hfs 4 _ rfl
    have e0 : Try.prog.cellsOf 28 = 1 := by kernel_rfl
    have e1 : Try.prog.cellsOf 30 = 2 := by kernel_rfl
    have e2 : Try.prog.cellsOf 31 = 1 := by kernel_rfl
    simp [e0, e1, e2, Value.cells] at h0 h1 h2 h3 h4
    obtain ⟨a, ha, -, wa⟩ := DataW.trod_int Try.underlying28 h0
    obtain ⟨b, hb, -, wb⟩ := DataW.trod_int Try.underlying28 h1
    obtain ⟨c, hc, -, wc⟩ := DataW.trod_int Try.underlying28 h2
    obtain ⟨p, s, hp, hs⟩ := tid_of h3
    obtain ⟨A, m, k, x, hx, hxl, hxs⟩ := bytes_of h4
    simp only [List.cons.injEq, and_true] at ha hb hc hx
    obtain ⟨a, rfl, la⟩ := u64_nat wa
    obtain ⟨b, rfl, lb⟩ := u64_nat wb
    obtain ⟨c, rfl, lc⟩ := u64_nat wc
    exact ⟨a, b, c, p, s, A, m, k, x, ha, hb, hc, hp, hs, hx, hxl, hxs, la, lb, lc⟩
theorem op5_of {n : Nat} {cs : List Value} {y : DataW H × List MemPlace} (h : DataW.trod enc Try.prog w base spare held n 35 cs = some y) : ∃ o : Op5, cs = o.cells ∧ o.ok w := by
  obtain ⟨y0, y1, y2, m, hx, hl, h0, h1, h2⟩ := trod_struct3 Try.underlying35 h
  rw [cellsO5] at hl
  match cs, hl with
  | [c0, c1, c2, c3, c4, c5, c6, c7], _ =>
    have e0 : Try.prog.cellsOf 3 = 1 := by kernel_rfl
    have e1 : Try.prog.cellsOf 5 = 1 := by kernel_rfl
    have e2 : Try.prog.cellsOf 33 = 6 := by kernel_rfl
    simp only [e0, e1, e2, List.drop, List.take] at h0 h1 h2
    obtain ⟨a, ha, -, wa⟩ := DataW.trod_int Try.underlying5 h0
    obtain ⟨b, hb, -, wb⟩ := DataW.trod_int Try.underlying3 h1
    simp only [List.cons.injEq, and_true] at ha hb
    obtain ⟨r, q, t, p, s, A, mm, k, x, k1, k2, k3, k4, k5, k6, hxl, hxs, la, lb, lc⟩ := tuple_of h2
    subst ha hb k1 k2 k3 k4 k5 k6
    exact ⟨⟨a, b, r, q, t, p, s, A, mm, k, x⟩, rfl, u8_in wa, i64_in wb, la, lb, lc, hxl, hxs⟩
theorem open_op5 {r : Reach} {b0 : Nat} {v : Value} {d : DataW H} {p : List MemPlace} (hval : Value.okWide Try.prog w r b0 35 v) (h : DataW.Trod enc Try.prog w base spare held 35 v d p) : ∃ o : Op5, v = .agg o.cells.toArray ∧ o.ok w := by
  obtain ⟨cs, rfl, hsz⟩ := okWide_struct Try.underlying35 hval
  obtain ⟨fuel, hf⟩ := h
  obtain ⟨o, ho, hok⟩ := op5_of hf
  have : cs.toList = o.cells := by simpa [Value.cells] using ho
  exact ⟨o, by rw [← this], hok⟩
theorem open_ops5 {r : Reach} {b0 : Nat} {v : Value} {d : DataW H} {p : List MemPlace} (hval : Value.okWide Try.prog w r b0 22 v) (h : DataW.Trod enc Try.prog w base spare held 22 v d p) :
    ∃ A n c l, v = .slice A n c ∧ l.length = n ∧ Sl w w.heap.size 8 A n c (ops5 l) ∧ ∀ o ∈ l, o.ok w := by
  obtain ⟨a0, n0, c0, rfl⟩ := okWide_slice Try.underlying22 hval
  obtain ⟨fuel, hf⟩ := h
  rcases open_slice Try.underlying22 hf with ⟨hcs, _⟩ | ⟨a, len, cap, m, n, D, Pl, hcs, hb, hl, hm, hmm, hx, hi⟩
  · have : (Value.slice a0 n0 c0) = .slice none 0 0 := by simpa [Value.cells] using hcs
    rw [this]
    exact ⟨none, 0, 0, [], rfl, rfl, ⟨rfl, Nat.le_refl _, by unfold maxLen; omega, fun _ => rfl, fun h => absurd h (by omega)⟩, fun o ho => by cases ho⟩
  · have e : (Value.slice a0 n0 c0) = .slice (some a) len cap := by simpa [Value.cells] using hcs
    rw [e]
    have hlm : len ≤ m := by rw [hmm]; split <;> omega
    obtain ⟨l, hll, hlp⟩ := list_of (fun i (u : Op5) => (∀ j c, (Op5.cells u)[j]? = some c → w.cell? (a.add (i * 8 + j)) = some c) ∧ u.ok w) len (fun i hi' => by
      obtain ⟨cs', hc, ht⟩ := hi i (by omega)
      obtain ⟨u, rfl, hok⟩ := op5_of ht
      rw [cellsO5] at hc
      obtain ⟨_, hcl, hat⟩ := World.cells?_some hc
      refine ⟨u, fun j c hj => ?_, hok⟩
      have hj3 : j < 8 := by rw [← hcl]; exact (List.getElem?_eq_some_iff.1 hj).1
      rw [← add_two, hat j hj3, hj])
    refine ⟨some a, len, cap, l, rfl, hll, ⟨by rw [ops5_len, hll], hl, hm, (fun e => by cases e), fun hn => ⟨a, rfl, ?_⟩⟩, fun u hu => ?_⟩
    · have hall : ∀ j u, (ops5 l)[j]? = some u → w.cell? (a.add j) = some u := by
        intro j u hu
        have hj : j < l.length * 8 := by rw [← ops5_len]; exact (List.getElem?_eq_some_iff.1 hu).1
        have hq : l[j / 8]? = some (l[j / 8]'(by omega)) := List.getElem?_eq_getElem _
        have hr := ops5_at l (j / 8) _ hq (j % 8) (by omega)
        have hjj : j / 8 * 8 + j % 8 = j := by omega
        rw [hjj] at hr
        rw [hr] at hu
        have := (hlp _ _ hq).1 _ _ hu
        rw [hjj] at this
        exact this
      refine ⟨?_, hall⟩
      have hq : l[0]? = some (l[0]'(by omega)) := List.getElem?_eq_getElem _
      have := World.block_lt_of_cell? w _ ((hlp 0 _ hq).1 0 _ rfl)
      rw [add_block] at this
      exact this
    · obtain ⟨i, hi', e⟩ := List.mem_iff_getElem.1 hu
      exact (hlp i u (by rw [← e]; exact List.getElem?_eq_getElem _)).2
end
/-- an operation's eight cells -/
theorem op5_cells {w w' : World} {A : Option Addr} {n c : Nat} {l : List Op5} (h : Sl w w.heap.size 8 A n c (ops5 l)) (hb : Below w.heap.size w w') {k : Nat} {o : Op5} (ho : l[k]? = some o) (hn : l.length = n) : ∃ ad, A = some ad ∧
    w'.cell? (ad.add (k * 8)) = some (.int .u8 o.z) ∧ w'.cell? ⟨(ad.add (k * 8)).block, (ad.add (k * 8)).off + 1, none⟩ = some (.int .i64 o.i) ∧ w'.cell? ⟨(ad.add (k * 8)).block, (ad.add (k * 8)).off + 2, none⟩ = some (.int .u64 o.r) ∧ w'.cell? ⟨(ad.add (k * 8)).block, (ad.add (k * 8)).off + 3, none⟩ = some (.int .u64 o.a) ∧ w'.cell? ⟨(ad.add (k * 8)).block, (ad.add (k * 8)).off + 4, none⟩ = some (.int .u64 o.b) ∧ w'.cell? ⟨(ad.add (k * 8)).block, (ad.add (k * 8)).off + 5, none⟩ = some (.int .i64 o.p) ∧ w'.cell? ⟨(ad.add (k * 8)).block, (ad.add (k * 8)).off + 6, none⟩ = some (.int .i64 o.s) ∧ w'.cell? ⟨(ad.add (k * 8)).block, (ad.add (k * 8)).off + 7, none⟩ = some (.slice o.A o.n o.c) := by
  have hk := (List.getElem?_eq_some_iff.1 ho).1
  obtain ⟨ad, hA, hat⟩ := h.at_ (by omega)
  have key : ∀ j y, o.cells[j]? = some y → j < 8 → w'.cell? (ad.add (k * 8 + j)) = some y := fun j y hy hj => (hat.below hb).2 (k * 8 + j) y (by rw [ops5_at l k o ho j hj]; exact hy)
  have e : ∀ j y, o.cells[j + 1]? = some y → j + 1 < 8 → w'.cell? ⟨(ad.add (k * 8)).block, (ad.add (k * 8)).off + (j + 1), none⟩ = some y := fun j y hy hj => by
    rw [← add_succ, add_two]
    exact key _ _ hy hj
  exact ⟨ad, hA, key 0 _ rfl (by omega), e 0 _ rfl (by omega), e 1 _ rfl (by omega), e 2 _ rfl (by omega), e 3 _ rfl (by omega), e 4 _ rfl (by omega), e 5 _ rfl (by omega), e 6 _ rfl (by omega)⟩
end Go.Proofs.Ytbpgjpopmohbmaa.Mem
