/- Rows of values in memory. -/
import Derived.Test.YtfabcnbblhadnaaDoorKeyA
import Derived.Test.YtfabcnbblhadnaaDoorCellJ2
namespace Go.Proofs.YtfabcnbblhadnaaDoor.Mem
open Go.RowKit Go.Proofs.YtfabcnbblhadnaaDoor.Nums
set_option linter.unusedVariables false
set_option maxRecDepth 100000
structure V where
  k : Int
  i : Int
  s : ByteArray
  b : Bool
def V.cells (v : V) : List Value := [.int .u8 v.k, .int .i64 v.i, .string v.s, .bool v.b]
def V.val (v : V) : Value := .agg #[.int .u8 v.k, .int .i64 v.i, .string v.s, .bool v.b]
/-- within Go's own bounds -/
def V.ok (v : V) : Prop := Nums.In64 v.i ∧ v.s.size ≤ maxLen
def V.right (v : V) : Bool := Cell.rightB v.k v.i v.s v.b
def V.bytes (v : V) : List UInt8 := vBytes v.k v.i v.s v.b
def vals (l : List V) : List Value := l.flatMap V.cells
def rowBytes (l : List V) : List UInt8 := l.flatMap V.bytes
theorem vals_len (l : List V) : (vals l).length = l.length * 4 := by
  induction l with
  | nil => rfl
  | cons v l ih =>
    show ((V.cells v) ++ vals l).length = _
    rw [List.length_append, ih, List.length_cons]
    show 4 + _ = _
    omega
theorem vals_app (a b : List V) : vals (a ++ b) = vals a ++ vals b := by simp [vals]
theorem vals_at (l : List V) (k j : Nat) (v : V) (hv : l[k]? = some v) (hj : j < 4) : (vals l)[k * 4 + j]? = (V.cells v)[j]? := by
  induction l generalizing k with
  | nil => simp at hv
  | cons a l ih =>
    show ((V.cells a) ++ vals l)[k * 4 + j]? = _
    cases k with
    | zero =>
      simp at hv
      subst hv
      rw [List.getElem?_append_left (by show 0 * 4 + j < 4; omega), Nat.zero_mul, Nat.zero_add]
    | succ k =>
      have : l[k]? = some v := by simpa using hv
      rw [List.getElem?_append_right (by show 4 ≤ _; omega), ← ih k this]
      congr 1
      show (k + 1) * 4 + j - 4 = _
      omega
theorem add_succ (p : Addr) (j : Nat) : p.add (j + 1) = ⟨p.block, p.off + (j + 1), none⟩ := by unfold Addr.add; rw [if_neg (by omega)]
/-- A value lies at an address, as a load spells it. -/
structure ValAt (w : World) (p : Addr) (v : V) : Prop where
  c0 : w.cell? p = some (.int .u8 v.k)
  c1 : w.cell? ⟨p.block, p.off + 1, none⟩ = some (.int .i64 v.i)
  c2 : w.cell? ⟨p.block, p.off + 2, none⟩ = some (.string v.s)
  c3 : w.cell? ⟨p.block, p.off + 3, none⟩ = some (.bool v.b)
theorem At.val {w : World} {B : Nat} {ad : Addr} {l : List V} (h : At w B ad (vals l)) {k : Nat} {v : V} (hv : l[k]? = some v) : ValAt w (ad.add (k * 4)) v :=
  ⟨h.2 _ _ (vals_at l k 0 v hv (by omega)), by rw [← add_succ _ 0, add_two]; exact h.2 _ _ (vals_at l k 1 v hv (by omega)), by rw [← add_succ _ 1, add_two]; exact h.2 _ _ (vals_at l k 2 v hv (by omega)), by rw [← add_succ _ 2, add_two]; exact h.2 _ _ (vals_at l k 3 v hv (by omega))⟩
theorem own_kept {w w' : World} {B : Nat} {v : Value} {n : Nat} {xs : List Value} (h : OwnB w B v n xs) (hb : Below w.heap.size w w') : OwnB w' B v n xs :=
  World.ownsRow.kept (row := none) h ⟨hb.os, hb.tape, hb.output, hb.size, fun k hk _ => hb.block k hk⟩ (by cases v.ownBlock <;> simp)
theorem ownV_kept {w w' : World} {B : Nat} {v : Value} {n : Nat} {xs : List Value} (h : OwnV w B v n xs) (hb : Below w.heap.size w w') : OwnV w' B v n xs :=
  World.ownsRow.kept (row := none) h ⟨hb.os, hb.tape, hb.output, hb.size, fun k hk _ => hb.block k hk⟩ (by cases v.ownBlock <;> simp)
/-- A box of a value that has just been laid, behind whatever leaves old blocks alone. -/
theorem ValAt.new (w : World) (v : V) (t : TypeId) : ValAt (w.alloc (.cells #[.int .u8 v.k, .int .i64 v.i, .string v.s, .bool v.b] t)) ⟨w.heap.size, 0, none⟩ v := by
  have h := at_new w #[.int .u8 v.k, .int .i64 v.i, .string v.s, .bool v.b] t
  exact ⟨h.2 0 _ rfl, h.2 1 _ rfl, h.2 2 _ rfl, h.2 3 _ rfl⟩
theorem ValAt.below {w w' : World} {p : Addr} {v : V} {B : Nat} (h : ValAt w p v) (hp : p.block < B) (hb : Below B w w') : ValAt w' p v :=
  ⟨(hb.cell hp).trans h.c0, (hb.cell (p := ⟨p.block, _, none⟩) hp).trans h.c1, (hb.cell (p := ⟨p.block, _, none⟩) hp).trans h.c2, (hb.cell (p := ⟨p.block, _, none⟩) hp).trans h.c3⟩
theorem right_kind {v : V} (h : v.right = true) : (v.k = 0 ∨ v.k = 1 ∨ v.k = 2 ∨ v.k = 3) ∧ v.s.size ≤ 60 := by
  obtain ⟨k, i, s, b⟩ := v
  have h0 : Cell.rightB k i s b = true := h
  have hs : ∀ {s : ByteArray}, s.toList.isEmpty = true → s.size ≤ 60 := fun {s} e => by
    rw [ByteArray.toList_eq] at e
    have : s.data.toList.length = 0 := by rw [List.isEmpty_iff.1 e]; rfl
    have : s.size = 0 := by simpa using this
    omega
  show (k = 0 ∨ k = 1 ∨ k = 2 ∨ k = 3) ∧ s.size ≤ 60
  unfold Cell.rightB at h0
  by_cases h0' : k = 0
  · rw [if_pos h0'] at h0; simp only [Bool.and_eq_true] at h0; exact ⟨.inl h0', hs h0.1.2⟩
  rw [if_neg h0'] at h0
  by_cases h1 : k = 1
  · rw [if_pos h1] at h0; simp only [Bool.and_eq_true] at h0; exact ⟨.inr (.inl h1), hs h0.1⟩
  rw [if_neg h1] at h0
  by_cases h2 : k = 2
  · rw [if_pos h2] at h0; simp only [Bool.and_eq_true, decide_eq_true_eq] at h0; exact ⟨.inr (.inr (.inl h2)), h0.1.2⟩
  rw [if_neg h2] at h0
  by_cases h3 : k = 3
  · rw [if_pos h3] at h0; simp only [Bool.and_eq_true] at h0; exact ⟨.inr (.inr (.inr h3)), hs h0.2⟩
  rw [if_neg h3] at h0
  cases h0
theorem bytes_le {v : V} (h : v.right = true) : v.bytes.length ≤ 62 := by
  have := right_kind h
  unfold V.bytes
  rw [vBytes_len]
  unfold vLen
  split
  · omega
  split
  · omega
  split <;> omega
theorem rowBytes_app (a b : List V) : rowBytes (a ++ b) = rowBytes a ++ rowBytes b := by simp [rowBytes]
theorem rowBytes_le (l : List V) (h : l.all V.right = true) : (rowBytes l).length ≤ l.length * 62 := by
  induction l with
  | nil => simp [rowBytes]
  | cons v l ih =>
    rw [List.all_cons, Bool.and_eq_true] at h
    show (v.bytes ++ rowBytes l).length ≤ _
    have h1 := bytes_le h.1
    have h2 := ih h.2
    rw [List.length_append, List.length_cons]
    omega
theorem take_succ_of {α : Type} {l : List α} {k : Nat} {v : α} (h : l[k]? = some v) : l.take (k + 1) = l.take k ++ [v] := by
  obtain ⟨hk, e⟩ := List.getElem?_eq_some_iff.1 h
  rw [List.take_succ_eq_append_getElem hk, e]
/-- A slice '.slice A n c', nil let in, whose cells are xs, below block B. -/
structure Sl (w : World) (B sz : Nat) (A : Option Addr) (n c : Nat) (xs : List Value) : Prop where
  len : xs.length = n * sz
  le : n ≤ c
  cap : c ≤ maxLen
  nil : A = none → c = 0
  at_ : 0 < n → ∃ ad, A = some ad ∧ At w B ad xs
section
variable {w w' : World} {B B' sz n c : Nat} {A : Option Addr} {xs : List Value} {v : Value}
theorem Sl.below (h : Sl w B sz A n c xs) (hb : Below B w w') : Sl w' B sz A n c xs :=
  ⟨h.len, h.le, h.cap, h.nil, fun hn => by obtain ⟨ad, e, ha⟩ := h.at_ hn; exact ⟨ad, e, ha.below hb⟩⟩
theorem Sl.more (h : Sl w B sz A n c xs) (hB : B ≤ B') : Sl w B' sz A n c xs :=
  ⟨h.len, h.le, h.cap, h.nil, fun hn => by obtain ⟨ad, e, ha⟩ := h.at_ hn; exact ⟨ad, e, ha.more hB⟩⟩
theorem Sl.on (h : Sl w w.heap.size sz A n c xs) (hb : Below w.heap.size w w') : Sl w' w'.heap.size sz A n c xs := (h.below hb).more hb.size
theorem Sl.lies (h : Sl w B sz A n c xs) : Lies w B sz (.slice A n c) n xs := by
  refine ⟨h.len, ?_⟩
  cases A with
  | none =>
    have hc := h.nil rfl
    have hn : n = 0 := by have := h.le; omega
    subst hc hn
    exact .inl ⟨rfl, rfl⟩
  | some ad => exact .inr ⟨ad, c, rfl, h.le, fun hn => by obtain ⟨ad', e, ha⟩ := h.at_ hn; injection e with e; subst e; exact ha⟩
theorem Sl.take (h : Sl w B sz A n c xs) {k : Nat} (hk : k ≤ n) : Sl w B sz A k c (xs.take (k * sz)) :=
  ⟨by rw [List.length_take, h.len]; exact Nat.min_eq_left (Nat.mul_le_mul_right _ hk), Nat.le_trans hk h.le, h.cap, h.nil, fun h0 => by obtain ⟨ad, e, ha⟩ := h.at_ (by omega); exact ⟨ad, e, ha.take _⟩⟩
theorem Sl.of_own {base : Nat} {e : TypeId} (h : w.ownsRow base e sz v n xs) : ∃ A c, v = .slice A n c ∧ Sl w w.heap.size sz A n c xs := by
  rcases h.2 with ⟨rfl, rfl⟩ | ⟨g, cap, cur, rfl, hb, hg, hc, hm, hs, ht⟩
  · exact ⟨none, 0, rfl, h.1, Nat.le_refl _, by unfold maxLen; omega, fun _ => rfl, fun h => absurd h (by omega)⟩
  · exact ⟨some ⟨g, 0, none⟩, cap, rfl, h.1, hc, hm, (fun e => by cases e), fun hn => ⟨_, rfl, (Array.getElem?_eq_some_iff.1 hg).1, h.cells (g := g) rfl⟩⟩
theorem Sl.lit (w : World) (cs : Array Value) (t : TypeId) (sz n H : Nat) (hH : w.heap.size = H) (h : cs.size = n * sz) (hn : n ≤ maxLen) : Sl (w.alloc (.cells cs t)) (w.alloc (.cells cs t)).heap.size sz (some ⟨H, 0, none⟩) n n cs.toList := by
  subst hH
  exact ⟨by rw [Array.length_toList]; exact h, Nat.le_refl _, hn, (fun e => by cases e), fun _ => ⟨_, rfl, by rw [size_alloc]; exact at_new w cs t⟩⟩
end
end Go.Proofs.YtfabcnbblhadnaaDoor.Mem
