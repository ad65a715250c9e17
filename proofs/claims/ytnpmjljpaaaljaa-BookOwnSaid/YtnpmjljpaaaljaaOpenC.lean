/- Scripts, stamps and bytes among the arguments: opened. -/
import Derived.Test.YtnpmjljpaaaljaaClogP
import Derived.ProofKit
import Derived.OpenShut
import Derived.Carry
import Derived.Lib.SmallJoins
import Derived.Deep.Strs
namespace Go.Proofs.Ytnpmjljpaaaljaa.Clg
open Go.RowKit Go.Proofs.Ytnpmjljpaaaljaa.Nums Go.Proofs.Ytnpmjljpaaaljaa.Mem Go.ChangeShapes Go.WideShapes Go.Deep Go.Joins
set_option linter.unusedVariables false
set_option linter.unusedSimpArgs false
set_option maxRecDepth 100000
theorem list_of {α : Type} (P : Nat → α → Prop) : ∀ n, (∀ i, i < n → ∃ v, P i v) → ∃ l : List α, l.length = n ∧ ∀ i v, l[i]? = some v → P i v
  | 0, _ => ⟨[], rfl, fun i v h => by simp at h⟩
  | n + 1, h => by
    obtain ⟨l, hl, hp⟩ := list_of P n (fun i hi => h i (by omega))
    obtain ⟨v, hv⟩ := h n (by omega)
    refine ⟨l ++ [v], by simp [hl], fun i u hu => ?_⟩
    by_cases hi : i < n
    · rw [List.getElem?_append_left (by omega)] at hu
      exact hp i u hu
    · have hin : i = n := by
        have := (List.getElem?_eq_some_iff.1 hu).1
        rw [List.length_append, hl] at this
        simp at this
        omega
      subst hin
      rw [← hl, List.getElem?_append_right (Nat.le_refl _), Nat.sub_self] at hu
      simp at hu
      subst hu
      exact hv
theorem u8_nat {x : Int} (h : (Lit.int .u8 x).wf = true) : ∃ n : Nat, x = n ∧ n < 256 := by
  have := h
  simp [Lit.wf, IntKind.min, IntKind.max, IntKind.signed, IntKind.bits] at this
  exact ⟨x.toNat, by omega, by omega⟩
theorem u64_nat {x : Int} (h : (Lit.int .u64 x).wf = true) : ∃ n : Nat, x = n ∧ n < 18446744073709551616 := by
  have := h
  simp [Lit.wf, IntKind.min, IntKind.max, IntKind.signed, IntKind.bits] at this
  exact ⟨x.toNat, by omega, by omega⟩
theorem add_off (a : Addr) (i j : Nat) : (a.add i).add j = a.add (i + j) := by
  unfold Addr.add
  by_cases hi : i = 0
  · subst hi; simp
  · by_cases hj : j = 0
    · subst hj; simp
    · simp [hi, hj, Nat.add_assoc]
theorem blk_off (a : Addr) (i : Nat) : (a.add i).block = a.block := by
  unfold Addr.add
  split <;> rfl
theorem off_succ (a : Addr) (i j : Nat) : a.add (i + (j + 1)) = ⟨(a.add i).block, (a.add i).off + (j + 1), none⟩ := by
  rw [← add_off, add_succ]
structure O10 where
  d : Nat
  x : Nat
def O10.cells (o : O10) : List Value := [.int .u8 (o.d : Int), .int .u64 (o.x : Int)]
def O10.ok (o : O10) : Prop := o.d < 256 ∧ o.x < 18446744073709551616
def o10_s (l : List O10) : List Value := l.flatMap O10.cells
theorem o10_len (l : List O10) : (o10_s l).length = l.length * 2 := by
  induction l with
  | nil => rfl
  | cons o l ih => show (o.cells ++ o10_s l).length = _; rw [List.length_append, ih, List.length_cons]; show 2 + _ = _; omega
theorem o10_at : ∀ (l : List O10) (k : Nat) (o : O10), l[k]? = some o → ∀ j, j < 2 → (o10_s l)[k * 2 + j]? = o.cells[j]?
  | [], k, o, h, j, hj => by simp at h
  | y :: l, 0, o, h, j, hj => by
    simp at h; subst h
    show (y.cells ++ o10_s l)[0 * 2 + j]? = _
    rw [Nat.zero_mul, Nat.zero_add, List.getElem?_append_left (show j < y.cells.length from hj)]
  | y :: l, k + 1, o, h, j, hj => by
    show (y.cells ++ o10_s l)[(k + 1) * 2 + j]? = _
    have e : y.cells.length = 2 := rfl
    rw [List.getElem?_append_right (by omega), e, show (k + 1) * 2 + j - 2 = k * 2 + j by omega]
    exact o10_at l k o (by simpa using h) j hj
theorem cells_o10 : Try.prog.cellsOf 62 = 2 := by kernel_rfl
section
variable {H : Type} {enc : TypeId × Value → H} {w : World} {base : Nat} {spare : Nat → Bool} {held : Bool}
theorem o10_of {n : Nat} {cs : List Value} {y : DataW H × List MemPlace} (h : DataW.trod enc Try.prog w base spare held n 62 cs = some y) : ∃ o : O10, cs = o.cells ∧ o.ok := by
  obtain ⟨xs, n, _, hl0, hl, hlen, hfs⟩ := DataW.trod_struct Try.underlying62 h
  have hl : cs.length = Try.prog.cellsOf 62 := by first | exact hl0 | exact hl
  rw [cells_o10] at hl
  match cs, hl with
  | [c0, c1], _ =>
    match xs, hlen with
    | [y0, y1], _ =>
      have h0 := hfs 0 _ rfl
      have h1 := hfs 1 _ rfl
      have e_u64 : Try.prog.cellsOf 28 = 1 := by kernel_rfl
      have e_u8 : Try.prog.cellsOf 5 = 1 := by kernel_rfl
      simp [e_u64, e_u8, Value.cells] at h0 h1
      obtain ⟨a0, ha0, -, wa0⟩ := DataW.trod_int Try.underlying5 h0
      obtain ⟨a0, rfl, la0⟩ := u8_nat wa0
      obtain ⟨a1, ha1, -, wa1⟩ := DataW.trod_int Try.underlying28 h1
      obtain ⟨a1, rfl, la1⟩ := u64_nat wa1
      simp only [List.cons.injEq, and_true] at ha0 ha1
      subst ha0 ha1
      exact ⟨⟨a0, a1⟩, rfl, ⟨la0, la1⟩⟩
theorem open_o10 {r : Reach} {b0 : Nat} {v : Value} {d : DataW H} {p : List MemPlace} (hval : Value.okWide Try.prog w r b0 22 v) (h : DataW.Trod enc Try.prog w base spare held 22 v d p) :
    ∃ A n c l, v = .slice A n c ∧ l.length = n ∧ Sl w w.heap.size 2 A n c (o10_s l) ∧ ∀ o ∈ l, o.ok := by
  obtain ⟨a0, n0, c0, rfl⟩ := okWide_slice Try.underlying22 hval
  obtain ⟨fuel, hf⟩ := h
  rcases open_slice Try.underlying22 hf with ⟨hcs, _⟩ | ⟨a, len, cap, m, n, D, Pl, hcs, hb, hl, hm, hmm, hx, hi⟩
  · have : (Value.slice a0 n0 c0) = .slice none 0 0 := by simpa [Value.cells] using hcs
    rw [this]
    exact ⟨none, 0, 0, [], rfl, rfl, ⟨rfl, Nat.le_refl _, by unfold maxLen; omega, fun _ => rfl, fun h => absurd h (by omega)⟩, fun o ho => by cases ho⟩
  · have e : (Value.slice a0 n0 c0) = .slice (some a) len cap := by simpa [Value.cells] using hcs
    rw [e]
    have hlm : len ≤ m := by rw [hmm]; split <;> omega
    obtain ⟨l, hll, hlp⟩ := list_of (fun i (u : O10) => (∀ j c, (O10.cells u)[j]? = some c → w.cell? (a.add (i * 2 + j)) = some c) ∧ u.ok) len (fun i hi' => by
      obtain ⟨cs', hc, ht⟩ := hi i (by omega)
      obtain ⟨u, rfl, hok⟩ := o10_of ht
      rw [cells_o10] at hc
      obtain ⟨_, hcl, hat⟩ := World.cells?_some hc
      refine ⟨u, fun j c hj => ?_, hok⟩
      have hj3 : j < 2 := by rw [← hcl]; exact (List.getElem?_eq_some_iff.1 hj).1
      rw [← add_off, hat j hj3, hj])
    refine ⟨some a, len, cap, l, rfl, hll, ⟨by rw [o10_len, hll], hl, hm, (fun e => by cases e), fun hn => ⟨a, rfl, ?_⟩⟩, fun u hu => ?_⟩
    · have hall : ∀ j u, (o10_s l)[j]? = some u → w.cell? (a.add j) = some u := by
        intro j u hu
        have hj : j < l.length * 2 := by rw [← o10_len]; exact (List.getElem?_eq_some_iff.1 hu).1
        have hq : l[j / 2]? = some (l[j / 2]'(by omega)) := List.getElem?_eq_getElem _
        have hr := o10_at l (j / 2) _ hq (j % 2) (by omega)
        have hjj : j / 2 * 2 + j % 2 = j := by omega
        rw [hjj] at hr
        rw [hr] at hu
        have := (hlp _ _ hq).1 _ _ hu
        rw [hjj] at this
        exact this
      refine ⟨?_, hall⟩
      have hq : l[0]? = some (l[0]'(by omega)) := List.getElem?_eq_getElem _
      have := World.block_lt_of_cell? w _ ((hlp 0 _ hq).1 0 _ rfl)
      rw [blk_off] at this
      exact this
    · obtain ⟨i, hi', e⟩ := List.mem_iff_getElem.1 hu
      exact (hlp i u (by rw [← e]; exact List.getElem?_eq_getElem _)).2
end
theorem o10_cells {w w' : World} {A : Option Addr} {n c : Nat} {l : List O10} (h : Sl w w.heap.size 2 A n c (o10_s l)) (hb : Below w.heap.size w w') {k : Nat} {o : O10} (ho : l[k]? = some o) (hn : l.length = n) : ∃ ad, A = some ad ∧ w'.cell? (ad.add (k * 2)) = some (.int .u8 (o.d : Int)) ∧ w'.cell? ⟨(ad.add (k * 2)).block, (ad.add (k * 2)).off + 1, none⟩ = some (.int .u64 (o.x : Int)) := by
  have hk := (List.getElem?_eq_some_iff.1 ho).1
  obtain ⟨ad, hA, hat⟩ := h.at_ (by omega)
  have key : ∀ j y, o.cells[j]? = some y → j < 2 → w'.cell? (ad.add (k * 2 + j)) = some y := fun j y hy hj => (hat.below hb).2 (k * 2 + j) y (by rw [o10_at l k o ho j hj]; exact hy)
  have e : ∀ j y, o.cells[j + 1]? = some y → j + 1 < 2 → w'.cell? ⟨(ad.add (k * 2)).block, (ad.add (k * 2)).off + (j + 1), none⟩ = some y := fun j y hy hj => by
    rw [← off_succ]
    exact key _ _ hy hj
  exact ⟨ad, hA, key 0 _ rfl (by omega), e 0 _ rfl (by omega)⟩
structure St where
  a : Nat
  b : Nat
def St.cells (o : St) : List Value := [.int .u64 (o.a : Int), .int .u64 (o.b : Int)]
def St.ok (o : St) : Prop := o.a < 18446744073709551616 ∧ o.b < 18446744073709551616
def st_s (l : List St) : List Value := l.flatMap St.cells
theorem st_len (l : List St) : (st_s l).length = l.length * 2 := by
  induction l with
  | nil => rfl
  | cons o l ih => show (o.cells ++ st_s l).length = _; rw [List.length_append, ih, List.length_cons]; show 2 + _ = _; omega
theorem st_at : ∀ (l : List St) (k : Nat) (o : St), l[k]? = some o → ∀ j, j < 2 → (st_s l)[k * 2 + j]? = o.cells[j]?
  | [], k, o, h, j, hj => by simp at h
  | y :: l, 0, o, h, j, hj => by
    simp at h; subst h
    show (y.cells ++ st_s l)[0 * 2 + j]? = _
    rw [Nat.zero_mul, Nat.zero_add, List.getElem?_append_left (show j < y.cells.length from hj)]
  | y :: l, k + 1, o, h, j, hj => by
    show (y.cells ++ st_s l)[(k + 1) * 2 + j]? = _
    have e : y.cells.length = 2 := rfl
    rw [List.getElem?_append_right (by omega), e, show (k + 1) * 2 + j - 2 = k * 2 + j by omega]
    exact st_at l k o (by simpa using h) j hj
theorem cells_st : Try.prog.cellsOf 37 = 2 := by kernel_rfl
section
variable {H : Type} {enc : TypeId × Value → H} {w : World} {base : Nat} {spare : Nat → Bool} {held : Bool}
theorem st_of {n : Nat} {cs : List Value} {y : DataW H × List MemPlace} (h : DataW.trod enc Try.prog w base spare held n 37 cs = some y) : ∃ o : St, cs = o.cells ∧ o.ok := by
  obtain ⟨xs, n, _, _, hl, hlen, hfs⟩ := DataW.trod_array Try.underlying37 h
  rw [cells_st] at hl
  match cs, hl with
  | [c0, c1], _ =>
    match xs, hlen with
    | [y0, y1], _ =>
      have h0 := hfs 0 (by omega)
      have h1 := hfs 1 (by omega)
      have e_u64 : Try.prog.cellsOf 28 = 1 := by kernel_rfl
      simp [e_u64, Value.cells] at h0 h1
      obtain ⟨a0, ha0, -, wa0⟩ := DataW.trod_int Try.underlying28 h0
      obtain ⟨a0, rfl, la0⟩ := u64_nat wa0
      obtain ⟨a1, ha1, -, wa1⟩ := DataW.trod_int Try.underlying28 h1
      obtain ⟨a1, rfl, la1⟩ := u64_nat wa1
      simp only [List.cons.injEq, and_true] at ha0 ha1
      subst ha0 ha1
      exact ⟨⟨a0, a1⟩, rfl, ⟨la0, la1⟩⟩
theorem open_st {r : Reach} {b0 : Nat} {v : Value} {d : DataW H} {p : List MemPlace} (hval : Value.okWide Try.prog w r b0 23 v) (h : DataW.Trod enc Try.prog w base spare held 23 v d p) :
    ∃ A n c l, v = .slice A n c ∧ l.length = n ∧ Sl w w.heap.size 2 A n c (st_s l) ∧ ∀ o ∈ l, o.ok := by
  obtain ⟨a0, n0, c0, rfl⟩ := okWide_slice Try.underlying23 hval
  obtain ⟨fuel, hf⟩ := h
  rcases open_slice Try.underlying23 hf with ⟨hcs, _⟩ | ⟨a, len, cap, m, n, D, Pl, hcs, hb, hl, hm, hmm, hx, hi⟩
  · have : (Value.slice a0 n0 c0) = .slice none 0 0 := by simpa [Value.cells] using hcs
    rw [this]
    exact ⟨none, 0, 0, [], rfl, rfl, ⟨rfl, Nat.le_refl _, by unfold maxLen; omega, fun _ => rfl, fun h => absurd h (by omega)⟩, fun o ho => by cases ho⟩
  · have e : (Value.slice a0 n0 c0) = .slice (some a) len cap := by simpa [Value.cells] using hcs
    rw [e]
    have hlm : len ≤ m := by rw [hmm]; split <;> omega
    obtain ⟨l, hll, hlp⟩ := list_of (fun i (u : St) => (∀ j c, (St.cells u)[j]? = some c → w.cell? (a.add (i * 2 + j)) = some c) ∧ u.ok) len (fun i hi' => by
      obtain ⟨cs', hc, ht⟩ := hi i (by omega)
      obtain ⟨u, rfl, hok⟩ := st_of ht
      rw [cells_st] at hc
      obtain ⟨_, hcl, hat⟩ := World.cells?_some hc
      refine ⟨u, fun j c hj => ?_, hok⟩
      have hj3 : j < 2 := by rw [← hcl]; exact (List.getElem?_eq_some_iff.1 hj).1
      rw [← add_off, hat j hj3, hj])
    refine ⟨some a, len, cap, l, rfl, hll, ⟨by rw [st_len, hll], hl, hm, (fun e => by cases e), fun hn => ⟨a, rfl, ?_⟩⟩, fun u hu => ?_⟩
    · have hall : ∀ j u, (st_s l)[j]? = some u → w.cell? (a.add j) = some u := by
        intro j u hu
        have hj : j < l.length * 2 := by rw [← st_len]; exact (List.getElem?_eq_some_iff.1 hu).1
        have hq : l[j / 2]? = some (l[j / 2]'(by omega)) := List.getElem?_eq_getElem _
        have hr := st_at l (j / 2) _ hq (j % 2) (by omega)
        have hjj : j / 2 * 2 + j % 2 = j := by omega
        rw [hjj] at hr
        rw [hr] at hu
        have := (hlp _ _ hq).1 _ _ hu
        rw [hjj] at this
        exact this
      refine ⟨?_, hall⟩
      have hq : l[0]? = some (l[0]'(by omega)) := List.getElem?_eq_getElem _
      have := World.block_lt_of_cell? w _ ((hlp 0 _ hq).1 0 _ rfl)
      rw [blk_off] at this
      exact this
    · obtain ⟨i, hi', e⟩ := List.mem_iff_getElem.1 hu
      exact (hlp i u (by rw [← e]; exact List.getElem?_eq_getElem _)).2
end
theorem st_cells {w w' : World} {A : Option Addr} {n c : Nat} {l : List St} (h : Sl w w.heap.size 2 A n c (st_s l)) (hb : Below w.heap.size w w') {k : Nat} {o : St} (ho : l[k]? = some o) (hn : l.length = n) : ∃ ad, A = some ad ∧ w'.cell? (ad.add (k * 2)) = some (.int .u64 (o.a : Int)) ∧ w'.cell? ⟨(ad.add (k * 2)).block, (ad.add (k * 2)).off + 1, none⟩ = some (.int .u64 (o.b : Int)) := by
  have hk := (List.getElem?_eq_some_iff.1 ho).1
  obtain ⟨ad, hA, hat⟩ := h.at_ (by omega)
  have key : ∀ j y, o.cells[j]? = some y → j < 2 → w'.cell? (ad.add (k * 2 + j)) = some y := fun j y hy hj => (hat.below hb).2 (k * 2 + j) y (by rw [st_at l k o ho j hj]; exact hy)
  have e : ∀ j y, o.cells[j + 1]? = some y → j + 1 < 2 → w'.cell? ⟨(ad.add (k * 2)).block, (ad.add (k * 2)).off + (j + 1), none⟩ = some y := fun j y hy hj => by
    rw [← off_succ]
    exact key _ _ hy hj
  exact ⟨ad, hA, key 0 _ rfl (by omega), e 0 _ rfl (by omega)⟩
structure By where
  z : Nat
def By.cells (o : By) : List Value := [.int .u8 (o.z : Int)]
def By.ok (o : By) : Prop := o.z < 256
def by_s (l : List By) : List Value := l.flatMap By.cells
theorem by_len (l : List By) : (by_s l).length = l.length * 1 := by
  induction l with
  | nil => rfl
  | cons o l ih => show (o.cells ++ by_s l).length = _; rw [List.length_append, ih, List.length_cons]; show 1 + _ = _; omega
theorem by_at : ∀ (l : List By) (k : Nat) (o : By), l[k]? = some o → ∀ j, j < 1 → (by_s l)[k * 1 + j]? = o.cells[j]?
  | [], k, o, h, j, hj => by simp at h
  | y :: l, 0, o, h, j, hj => by
    simp at h; subst h
    show (y.cells ++ by_s l)[0 * 1 + j]? = _
    rw [Nat.zero_mul, Nat.zero_add, List.getElem?_append_left (show j < y.cells.length from hj)]
  | y :: l, k + 1, o, h, j, hj => by
    show (y.cells ++ by_s l)[(k + 1) * 1 + j]? = _
    have e : y.cells.length = 1 := rfl
    rw [List.getElem?_append_right (by omega), e, show (k + 1) * 1 + j - 1 = k * 1 + j by omega]
    exact by_at l k o (by simpa using h) j hj
theorem cells_by : Try.prog.cellsOf 5 = 1 := by kernel_rfl
section
variable {H : Type} {enc : TypeId × Value → H} {w : World} {base : Nat} {spare : Nat → Bool} {held : Bool}
theorem by_of {n : Nat} {cs : List Value} {y : DataW H × List MemPlace} (h : DataW.trod enc Try.prog w base spare held n 5 cs = some y) : ∃ o : By, cs = o.cells ∧ o.ok := by
  obtain ⟨a0, ha0, -, wa0⟩ := DataW.trod_int Try.underlying5 h
  obtain ⟨a0, rfl, la0⟩ := u8_nat wa0
  subst ha0
  exact ⟨⟨a0⟩, rfl, la0⟩
theorem open_by {r : Reach} {b0 : Nat} {v : Value} {d : DataW H} {p : List MemPlace} (hval : Value.okWide Try.prog w r b0 40 v) (h : DataW.Trod enc Try.prog w base spare held 40 v d p) :
    ∃ A n c l, v = .slice A n c ∧ l.length = n ∧ Sl w w.heap.size 1 A n c (by_s l) ∧ ∀ o ∈ l, o.ok := by
  obtain ⟨a0, n0, c0, rfl⟩ := okWide_slice Try.underlying40 hval
  obtain ⟨fuel, hf⟩ := h
  rcases open_slice Try.underlying40 hf with ⟨hcs, _⟩ | ⟨a, len, cap, m, n, D, Pl, hcs, hb, hl, hm, hmm, hx, hi⟩
  · have : (Value.slice a0 n0 c0) = .slice none 0 0 := by simpa [Value.cells] using hcs
    rw [this]
    exact ⟨none, 0, 0, [], rfl, rfl, ⟨rfl, Nat.le_refl _, by unfold maxLen; omega, fun _ => rfl, fun h => absurd h (by omega)⟩, fun o ho => by cases ho⟩
  · have e : (Value.slice a0 n0 c0) = .slice (some a) len cap := by simpa [Value.cells] using hcs
    rw [e]
    have hlm : len ≤ m := by rw [hmm]; split <;> omega
    obtain ⟨l, hll, hlp⟩ := list_of (fun i (u : By) => (∀ j c, (By.cells u)[j]? = some c → w.cell? (a.add (i * 1 + j)) = some c) ∧ u.ok) len (fun i hi' => by
      obtain ⟨cs', hc, ht⟩ := hi i (by omega)
      obtain ⟨u, rfl, hok⟩ := by_of ht
      rw [cells_by] at hc
      obtain ⟨_, hcl, hat⟩ := World.cells?_some hc
      refine ⟨u, fun j c hj => ?_, hok⟩
      have hj3 : j < 1 := by rw [← hcl]; exact (List.getElem?_eq_some_iff.1 hj).1
      rw [← add_off, hat j hj3, hj])
    refine ⟨some a, len, cap, l, rfl, hll, ⟨by rw [by_len, hll], hl, hm, (fun e => by cases e), fun hn => ⟨a, rfl, ?_⟩⟩, fun u hu => ?_⟩
    · have hall : ∀ j u, (by_s l)[j]? = some u → w.cell? (a.add j) = some u := by
        intro j u hu
        have hj : j < l.length * 1 := by rw [← by_len]; exact (List.getElem?_eq_some_iff.1 hu).1
        have hq : l[j / 1]? = some (l[j / 1]'(by omega)) := List.getElem?_eq_getElem _
        have hr := by_at l (j / 1) _ hq (j % 1) (by omega)
        have hjj : j / 1 * 1 + j % 1 = j := by omega
        rw [hjj] at hr
        rw [hr] at hu
        have := (hlp _ _ hq).1 _ _ hu
        rw [hjj] at this
        exact this
      refine ⟨?_, hall⟩
      have hq : l[0]? = some (l[0]'(by omega)) := List.getElem?_eq_getElem _
      have := World.block_lt_of_cell? w _ ((hlp 0 _ hq).1 0 _ rfl)
      rw [blk_off] at this
      exact this
    · obtain ⟨i, hi', e⟩ := List.mem_iff_getElem.1 hu
      exact (hlp i u (by rw [← e]; exact List.getElem?_eq_getElem _)).2
end
theorem by_cells {w w' : World} {A : Option Addr} {n c : Nat} {l : List By} (h : Sl w w.heap.size 1 A n c (by_s l)) (hb : Below w.heap.size w w') {k : Nat} {o : By} (ho : l[k]? = some o) (hn : l.length = n) : ∃ ad, A = some ad ∧ w'.cell? (ad.add (k * 1)) = some (.int .u8 (o.z : Int)) := by
  have hk := (List.getElem?_eq_some_iff.1 ho).1
  obtain ⟨ad, hA, hat⟩ := h.at_ (by omega)
  have key : ∀ j y, o.cells[j]? = some y → j < 1 → w'.cell? (ad.add (k * 1 + j)) = some y := fun j y hy hj => (hat.below hb).2 (k * 1 + j) y (by rw [by_at l k o ho j hj]; exact hy)
  exact ⟨ad, hA, key 0 _ rfl (by omega)⟩
end Go.Proofs.Ytnpmjljpaaaljaa.Clg
