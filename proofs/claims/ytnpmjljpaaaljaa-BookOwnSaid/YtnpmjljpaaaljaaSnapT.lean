/- Appends of snapshots, of tuples: slices of one's own. -/
import Derived.Test.YtnpmjljpaaaljaaSnapH
namespace Go.Proofs.Ytnpmjljpaaaljaa.Clg
open Go.ChangeMaps Go.MapKept Go.RowKit Go.Proofs.Ytnpmjljpaaaljaa.Nums Go.Proofs.Ytnpmjljpaaaljaa.Mem
set_option linter.unusedVariables false
set_option linter.unusedSimpArgs false
set_option maxRecDepth 100000
theorem infoS : (Try.prog.info? 48).map (fun i => (i.zero, i.size, i.bytes)) = some (some (.agg #[.int .u64 0, .int .u64 0, .int .u64 0, .slice none 0 0]), 4, 48) := by kernel_rfl
theorem infoT : (Try.prog.info? 42).map (fun i => (i.zero, i.size, i.bytes)) = some (some (.agg #[.int .u64 0, .int .u64 0, .int .u64 0, .int .i64 0, .int .i64 0, .slice none 0 0]), 6, 64) := by kernel_rfl
def OwnS (w : World) (B : Nat) (v : Value) (n : Nat) (xs : List Value) : Prop := w.ownsRow B 48 4 v n xs
def OwnT (w : World) (B : Nat) (v : Value) (n : Nat) (xs : List Value) : Prop := w.ownsRow B 42 6 v n xs
theorem OwnS.alloc {w : World} {B : Nat} {v : Value} {n : Nat} {xs : List Value} (h : OwnS w B v n xs) (o : Obj) : OwnS (w.alloc o) B v n xs := World.ownsRow.alloc h o
theorem OwnT.alloc {w : World} {B : Nat} {v : Value} {n : Nat} {xs : List Value} (h : OwnT w B v n xs) (o : Obj) : OwnT (w.alloc o) B v n xs := World.ownsRow.alloc h o
theorem wpl_app_s {w : World} {ops : Array Oper} {rest : List Oper} {o : Oper} {a : Act} {Q : Exit → Act → World → Prop} (hgd : o.guard = none) (s x : Operand)
    (ho : o.op = .call { callee := .builtin .append, args := #[s, x], argTypes := #[32, 32] })
    (base : Nat) (v : Value) (n : Nat) (xs : List Value) (hs : a.eval s = v) (hown : OwnS w base v n xs)
    (B : Nat) (y : Value) (m : Nat) (news : List Value) (hy : a.eval x = y) (hx : Lies w B 4 y m news) (h1 : ∀ u ∈ news, u.oneCell' = true)
    (hbytes : n + m ≤ 1000000) (hbase : base ≤ w.heap.size)
    (h : ∀ v' w', OwnS w' base v' (n + m) (xs ++ news) → Kin w w' v v' → wpList Try.prog ops Q rest (a.put o.dst v') w') : wpList Try.prog ops Q (o :: rest) a w := by
  obtain ⟨i, hi, hz0, hz1, hz2⟩ := info_parts infoS
  exact wpList_plain hgd fun _ hK => wp_append_mem w s x _ ho base 48 i _ 4 48 Try.underlying32 hi hz0 hz1 hz2 rfl (by omega) v n xs hs hown B y m news hy hx h1 (by unfold maxLen; omega) (by omega) hbase fun v' w' h2 h3 => hK _ _ (h v' w' h2 h3)
theorem wpl_app_t {w : World} {ops : Array Oper} {rest : List Oper} {o : Oper} {a : Act} {Q : Exit → Act → World → Prop} (hgd : o.guard = none) (s x : Operand)
    (ho : o.op = .call { callee := .builtin .append, args := #[s, x], argTypes := #[68, 68] })
    (base : Nat) (v : Value) (n : Nat) (xs : List Value) (hs : a.eval s = v) (hown : OwnT w base v n xs)
    (B : Nat) (y : Value) (m : Nat) (news : List Value) (hy : a.eval x = y) (hx : Lies w B 6 y m news) (h1 : ∀ u ∈ news, u.oneCell' = true)
    (hbytes : n + m ≤ 1000000) (hbase : base ≤ w.heap.size)
    (h : ∀ v' w', OwnT w' base v' (n + m) (xs ++ news) → Kin w w' v v' → wpList Try.prog ops Q rest (a.put o.dst v') w') : wpList Try.prog ops Q (o :: rest) a w := by
  obtain ⟨i, hi, hz0, hz1, hz2⟩ := info_parts infoT
  exact wpList_plain hgd fun _ hK => wp_append_mem w s x _ ho base 42 i _ 6 64 Try.underlying68 hi hz0 hz1 hz2 rfl (by omega) v n xs hs hown B y m news hy hx h1 (by unfold maxLen; omega) (by omega) hbase fun v' w' h2 h3 => hK _ _ (h v' w' h2 h3)
theorem sv_one (s : Sv) : ∀ u ∈ s.cells, u.oneCell' = true := by
  intro u hu
  unfold Sv.cells at hu
  simp at hu
  rcases hu with rfl | rfl | rfl | rfl <;> rfl
def tup (t : Nat × Nat) : List Value := [.int .u64 0, .int .u64 (t.1 : Int), .int .u64 (t.2 : Int), .int .i64 0, .int .i64 0, .slice none 0 0]
def tups (l : List (Nat × Nat)) : List Value := l.flatMap tup
theorem tups_len (l : List (Nat × Nat)) : (tups l).length = l.length * 6 := by
  induction l with
  | nil => rfl
  | cons o l ih => show (tup o ++ tups l).length = _; rw [List.length_append, ih, List.length_cons]; show 6 + _ = _; omega
theorem tups_app (a b : List (Nat × Nat)) : tups (a ++ b) = tups a ++ tups b := by simp [tups]
theorem tups_at : ∀ (l : List (Nat × Nat)) (k : Nat) (o : Nat × Nat), l[k]? = some o → ∀ j, j < 6 → (tups l)[k * 6 + j]? = (tup o)[j]?
  | [], k, o, h, j, hj => by simp at h
  | y :: l, 0, o, h, j, hj => by
    simp at h; subst h
    show (tup y ++ tups l)[0 * 6 + j]? = _
    rw [Nat.zero_mul, Nat.zero_add, List.getElem?_append_left (show j < (tup y).length from hj)]
  | y :: l, k + 1, o, h, j, hj => by
    show (tup y ++ tups l)[(k + 1) * 6 + j]? = _
    have e : (tup y).length = 6 := rfl
    rw [List.getElem?_append_right (by omega), e, show (k + 1) * 6 + j - 6 = k * 6 + j by omega]
    exact tups_at l k o (by simpa using h) j hj
theorem tup_one (t : Nat × Nat) : ∀ u ∈ tup t, u.oneCell' = true := by
  intro u hu
  unfold tup at hu
  simp at hu
  rcases hu with rfl | rfl | rfl | rfl | rfl | rfl <;> rfl
theorem tup_cells {w : World} {A : Option Addr} {n c : Nat} {l : List (Nat × Nat)} (h : Sl w w.heap.size 6 A n c (tups l)) {w' : World} (hb : Below w.heap.size w w') {k : Nat} {o : Nat × Nat} (ho : l[k]? = some o) (hn : l.length = n) : ∃ ad, A = some ad ∧
    w'.cell? (ad.add (k * 6)) = some (.int .u64 0) ∧ w'.cell? ⟨(ad.add (k * 6)).block, (ad.add (k * 6)).off + 1, none⟩ = some (.int .u64 (o.1 : Int)) ∧ w'.cell? ⟨(ad.add (k * 6)).block, (ad.add (k * 6)).off + 2, none⟩ = some (.int .u64 (o.2 : Int)) ∧ w'.cell? ⟨(ad.add (k * 6)).block, (ad.add (k * 6)).off + 3, none⟩ = some (.int .i64 0) ∧ w'.cell? ⟨(ad.add (k * 6)).block, (ad.add (k * 6)).off + 4, none⟩ = some (.int .i64 0) ∧ w'.cell? ⟨(ad.add (k * 6)).block, (ad.add (k * 6)).off + 5, none⟩ = some (.slice none 0 0) := by
  have hk := (List.getElem?_eq_some_iff.1 ho).1
  obtain ⟨ad, hA, hat⟩ := h.at_ (by omega)
  have key : ∀ j y, (tup o)[j]? = some y → j < 6 → w'.cell? (ad.add (k * 6 + j)) = some y := fun j y hy hj => (hat.below hb).2 (k * 6 + j) y (by rw [tups_at l k o ho j hj]; exact hy)
  have e : ∀ j y, (tup o)[j + 1]? = some y → j + 1 < 6 → w'.cell? ⟨(ad.add (k * 6)).block, (ad.add (k * 6)).off + (j + 1), none⟩ = some y := fun j y hy hj => by
    rw [← off_succ]
    exact key _ _ hy hj
  exact ⟨ad, hA, key 0 _ rfl (by omega), e 0 _ rfl (by omega), e 1 _ rfl (by omega), e 2 _ rfl (by omega), e 3 _ rfl (by omega), e 4 _ rfl (by omega)⟩
end Go.Proofs.Ytnpmjljpaaaljaa.Clg
