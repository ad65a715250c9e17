/- Memory words of our own (no type of the program is named): cells from an address on, slices, blocks known whole, what a call leaves alone. -/
import Derived.Test.YtnpmjljpaaaljaaRows
import Derived.Test.YtnpmjljpaaaljaaNums
import Derived.WalkKit
import Derived.Lib.Hide
import Derived.Lib.AppendStr
import Derived.Outline
import Derived.Below
import Derived.WalkSpells
import Derived.WalkLawsBesides
import Derived.Maps.AppendAt
import Derived.Deep.AppendLies
import Derived.Deep.RegionWith
import Derived.Deep.RegionLaw
import Derived.Deep.RegionHeldLaw
import Derived.Deep.QuietTactic
import Derived.BigQuiet
import Derived.Lib.QuietBelow
namespace Go.Proofs.Ytnpmjljpaaaljaa.Mem
open Go.RowKit Go.Proofs.Ytnpmjljpaaaljaa.Nums
set_option linter.unusedVariables false
set_option maxRecDepth 100000

theorem add_block (a : Addr) (n : Nat) : (a.add n).block = a.block := by unfold Addr.add; split <;> rfl
theorem add_flat (g j : Nat) : (⟨g, 0, none⟩ : Addr).add j = ⟨g, j, none⟩ := by unfold Addr.add; split <;> simp_all
theorem add_two (a : Addr) (i j : Nat) : (a.add i).add j = a.add (i + j) := by
  unfold Addr.add
  by_cases hi : i = 0 <;> by_cases hj : j = 0 <;> simp [hi, hj, Nat.add_assoc]

/-- The cells from an address on, all below block B. -/
def At (w : World) (B : Nat) (ad : Addr) (xs : List Value) : Prop := ad.block < B ∧ ∀ j u, xs[j]? = some u → w.cell? (ad.add j) = some u
/-- A slice value of n elements (sz cells each) whose cells are xs, below block B. -/
def Lies (w : World) (B sz : Nat) (v : Value) (n : Nat) (xs : List Value) : Prop :=
  xs.length = n * sz ∧ ((v = .slice none 0 0 ∧ n = 0) ∨ ∃ ad c, v = .slice (some ad) n c ∧ n ≤ c ∧ (0 < n → At w B ad xs))

section
variable {w w' : World} {B B' sz n : Nat} {v : Value} {xs : List Value} {ad : Addr}
theorem At.keep (h : At w B ad xs) (hk : ∀ p : Addr, p.block < B → w'.cell? p = w.cell? p) : At w' B ad xs :=
  ⟨h.1, fun j u hu => (hk _ (by rw [add_block]; exact h.1)).trans (h.2 j u hu)⟩
theorem At.below (h : At w B ad xs) (hb : Below B w w') : At w' B ad xs := h.keep fun _ hp => hb.cell hp
theorem At.more (h : At w B ad xs) (hB : B ≤ B') : At w B' ad xs := ⟨Nat.lt_of_lt_of_le h.1 hB, h.2⟩
theorem At.at_ (h : At w B ad xs) {j : Nat} {u : Value} (hu : xs[j]? = some u) : w.cell? (ad.add j) = some u := h.2 j u hu
theorem At.drop (h : At w B ad xs) (k : Nat) : At w B (ad.add k) (xs.drop k) :=
  ⟨by rw [add_block]; exact h.1, fun j u hu => by rw [add_two]; exact h.2 _ u (by rw [← hu, List.getElem?_drop])⟩
theorem At.take (h : At w B ad xs) (k : Nat) : At w B ad (xs.take k) :=
  ⟨h.1, fun j u hu => h.2 j u (by rw [List.getElem?_take] at hu; split at hu; exact hu; cases hu)⟩
theorem Lies.nil (w : World) (B sz : Nat) : Lies w B sz (.slice none 0 0) 0 [] := ⟨by simp, .inl ⟨rfl, rfl⟩⟩
theorem Lies.below (h : Lies w B sz v n xs) (hb : Below B w w') : Lies w' B sz v n xs := by
  rcases h with ⟨hl, h | ⟨ad, c, hv, hc, ha⟩⟩
  · exact ⟨hl, .inl h⟩
  · exact ⟨hl, .inr ⟨ad, c, hv, hc, fun hn => (ha hn).below hb⟩⟩
theorem Lies.more (h : Lies w B sz v n xs) (hB : B ≤ B') : Lies w B' sz v n xs := by
  rcases h with ⟨hl, h | ⟨ad, c, hv, hc, ha⟩⟩
  · exact ⟨hl, .inl h⟩
  · exact ⟨hl, .inr ⟨ad, c, hv, hc, fun hn => (ha hn).more hB⟩⟩
theorem Lies.some_ (h : At w B ad xs) (hl : xs.length = n * sz) {c : Nat} (hc : n ≤ c) : Lies w B sz (.slice (some ad) n c) n xs := ⟨hl, .inr ⟨ad, c, rfl, hc, fun _ => h⟩⟩
theorem Lies.of_own {base : Nat} {e : TypeId} (h : w.ownsRow base e sz v n xs) : Lies w w.heap.size sz v n xs := by
  refine ⟨h.1, ?_⟩
  rcases h.2 with h0 | ⟨g, cap, cur, hv, hb, hg, hc, hm, hs, ht⟩
  · exact .inl h0
  · subst hv
    exact .inr ⟨⟨g, 0, none⟩, cap, rfl, hc, fun hn => ⟨(Array.getElem?_eq_some_iff.1 hg).1, h.cells (g := g) rfl⟩⟩
end

/-- From w to w' nothing has turned but v's own block, and there are new ones; v' lies in v's block, or in a new one. -/
def Kin (w w' : World) (v v' : Value) : Prop := w.grownBy w' v.ownBlock ∧ (v'.ownBlock = v.ownBlock ∨ ∃ g, v'.ownBlock = some g ∧ w.heap.size ≤ g)
theorem Kin.refl (w : World) (v : Value) : Kin w w v v := ⟨⟨rfl, rfl, rfl, Nat.le_refl _, fun _ _ _ => rfl⟩, .inl rfl⟩
theorem Kin.size {w w' : World} {v v' : Value} (h : Kin w w' v v') : w.heap.size ≤ w'.heap.size := h.1.size
theorem Kin.trans {a b c : World} {v v1 v2 : Value} (h : Kin a b v v1) (k : Kin b c v1 v2) : Kin a c v v2 := by
  refine ⟨⟨k.1.os.trans h.1.os, k.1.tape.trans h.1.tape, k.1.output.trans h.1.output, Nat.le_trans h.1.size k.1.size, fun i hi hne => ?_⟩, ?_⟩
  · refine (k.1.block i (Nat.lt_of_lt_of_le hi h.1.size) ?_).trans (h.1.block i hi hne)
    rcases h.2 with e | ⟨g, e, hg⟩
    · rw [e]; exact hne
    · rw [e]; intro x; injection x with x; omega
  · rcases k.2 with e | ⟨g, e, hg⟩
    · rw [e]; exact h.2
    · exact .inr ⟨g, e, Nat.le_trans h.1.size hg⟩
theorem Kin.before {w0 w w' : World} {v v' : Value} (hb : Below w0.heap.size w0 w) (h : Kin w w' v v') (hv : v.ownBlock = none ∨ ∃ g, v.ownBlock = some g ∧ g < w0.heap.size) : Kin w0 w' v v' := by
  refine ⟨⟨h.1.os.trans hb.os, h.1.tape.trans hb.tape, h.1.output.trans hb.output, Nat.le_trans hb.size h.1.size, fun i hi hne => (h.1.block i (Nat.lt_of_lt_of_le hi hb.size) hne).trans (hb.block i hi)⟩, ?_⟩
  rcases h.2 with e | ⟨g, e, hg⟩
  · exact .inl e
  · exact .inr ⟨g, e, Nat.le_trans hb.size hg⟩
theorem Kin.alloc (w : World) (o : Obj) (v : Value) : Kin w (w.alloc o) v v := ⟨World.grownBy_alloc w o _, .inl rfl⟩
theorem Kin.drew {w w' : World} {v v' : Value} (h : Kin w w' v v') : Kin w w'.drew v v' := ⟨⟨h.1.os, h.1.tape, h.1.output, h.1.size, h.1.block⟩, h.2⟩
theorem Kin.of_below {w w' : World} (h : Below w.heap.size w w') (v : Value) : Kin w w' v v := ⟨⟨h.os, h.tape, h.output, h.size, fun k hk _ => h.block k hk⟩, .inl rfl⟩
theorem Kin.cell {w w' : World} {v v' : Value} (h : Kin w w' v v') {a : Addr} {u : Value} (hc : w.cell? a = some u) (hne : v.ownBlock ≠ some a.block) : w'.cell? a = some u := h.1.cell hc (Ne.symm hne)
theorem Kin.below {w w' : World} {v v' : Value} {B : Nat} (h : Kin w w' v v') (hB : B ≤ w.heap.size) (hv : ∀ k, v.ownBlock = some k → B ≤ k) : Below B w w' := (Below.refl B w).grown h.1 hB hv
/-- A block that has just been laid. -/
theorem at_new (w : World) (cs : Array Value) (t : TypeId) : At (w.alloc (.cells cs t)) (w.heap.size + 1) ⟨w.heap.size, 0, none⟩ cs.toList :=
  ⟨by show w.heap.size < _; omega, World.news_of_block (heap_alloc_new w _)⟩

section
variable {P : Program} (w : World)
theorem run_append_nothing (base : Nat) (t ty e : TypeId) (i : TypeInfo) (size : Nat) (ht : P.underlying t = some (.slice e)) (hi : P.info? e = some i)
    (v : Value) (n : Nat) (xs : List Value) (hown : w.ownsRow base e size v n xs) : (Builtin.append_ #[t, t] ty #[v, .slice none 0 0]).run P w = .ok v w :=
  run_append_owned_none w base t ty e i size ht hi v n xs hown

/-- append onto a slice of the call's own, of whatever lies somewhere. -/
theorem run_append_mem (base : Nat) (t ty e : TypeId) (i : TypeInfo) (z : Value) (size bytes : Nat) (ht : P.underlying t = some (.slice e)) (hi : P.info? e = some i) (hz : i.zero = some z)
    (hsize : i.size = size) (hby : i.bytes = bytes) (hzs : z.cells.size = size) (hsz : 0 < size)
    (v : Value) (n : Nat) (xs : List Value) (hown : w.ownsRow base e size v n xs)
    (B : Nat) (x : Value) (m : Nat) (news : List Value) (hx : Lies w B size x m news) (h1 : ∀ u ∈ news, u.oneCell' = true)
    (h63 : n + m ≤ maxLen) (hbytes : (n + m) * bytes ≤ 140737488355328) (hbase : base ≤ w.heap.size) :
    ∃ v' w', (Builtin.append_ #[t, t] ty #[v, x]).run P w = .ok v' w' ∧ w'.ownsRow base e size v' (n + m) (xs ++ news) ∧ Kin w w' v v' := by
  rcases hx with ⟨hl, ⟨rfl, rfl⟩ | ⟨ad, c, rfl, hc, ha⟩⟩
  · have hn : news = [] := List.eq_nil_of_length_eq_zero (by simpa using hl)
    subst hn
    exact ⟨v, w, run_append_owned_none w base t ty e i size ht hi v n xs hown, by simpa using hown, Kin.refl w v⟩
  · have hcells : ∀ j u, news[j]? = some u → w.cell? (ad.add j) = some u := by
      rcases Nat.eq_zero_or_pos m with h0 | h0
      · subst h0
        have hn : news = [] := List.eq_nil_of_length_eq_zero (by simpa using hl)
        subst hn
        intro j u hu
        simp at hu
      · exact (ha h0).2
    obtain ⟨v', w', hr, h2, h3, _, h5⟩ := run_append_own_at (P := P) w base t ty e i z size bytes ht hi hz hsize hby hzs hsz v n xs hown ad m c news hl hcells h1 h63 hbytes hbase
    exact ⟨v', w', hr, h2, h3, h5.elim .inl fun h => .inr ⟨_, h, Nat.le_refl _⟩⟩

theorem wp_append_mem {o : Oper} {a : Act} {K : Act → World → Prop} {Q : Exit → Act → World → Prop} (s x : Operand) (t : TypeId)
    (ho : o.op = .call { callee := .builtin .append, args := #[s, x], argTypes := #[t, t] })
    (base : Nat) (e : TypeId) (i : TypeInfo) (z : Value) (size bytes : Nat) (ht : P.underlying t = some (.slice e)) (hi : P.info? e = some i) (hz : i.zero = some z)
    (hsize : i.size = size) (hby : i.bytes = bytes) (hzs : z.cells.size = size) (hsz : 0 < size)
    (v : Value) (n : Nat) (xs : List Value) (hs : a.eval s = v) (hown : w.ownsRow base e size v n xs)
    (B : Nat) (y : Value) (m : Nat) (news : List Value) (hy : a.eval x = y) (hx : Lies w B size y m news) (h1 : ∀ u ∈ news, u.oneCell' = true)
    (h63 : n + m ≤ maxLen) (hbytes : (n + m) * bytes ≤ 140737488355328) (hbase : base ≤ w.heap.size)
    (h : ∀ v' w', w'.ownsRow base e size v' (n + m) (xs ++ news) → Kin w w' v v' → K (a.put o.dst v') w') : o.wp P a w K Q := by
  obtain ⟨v', w', hr, h2, h3⟩ := run_append_mem (P := P) w base t o.type e i z size bytes ht hi hz hsize hby hzs hsz v n xs hown B y m news hx h1 h63 hbytes hbase
  unfold Oper.wp execOp
  simp only [ho, resolve, invoke, builtin, Sem.run_bind, Sem.run_pure, Result.andThen_ok, List.map_toArray, List.map_cons, List.map_nil, hs, hy, hr]
  exact h v' w' h2 h3

theorem run_append_text_at (base : Nat) (t u ty e : TypeId) (i : TypeInfo) (ht : P.underlying t = some (.slice e)) (hu : P.underlying u = some .string) (hi : P.info? e = some i) (hz : i.zero = some (.int .u8 0))
    (hsize : i.size = 1) (hby : i.bytes = 1) (v : Value) (n : Nat) (xs : List Value) (hown : w.ownsRow base e 1 v n xs) (s : ByteArray)
    (h63 : n + s.size ≤ maxLen) (hbytes : n + s.size ≤ 140737488355328) (hbase : base ≤ w.heap.size) :
    ∃ v' w', (Builtin.append_ #[t, u] ty #[v, .string s]).run P w = .ok v' w' ∧ w'.ownsRow base e 1 v' (n + s.size) (xs ++ Lib.strCells s) ∧ Kin w w' v v' := by
  obtain ⟨v', w', hr, h2, h3, h4⟩ := Lib.run_append_own_string (P := P) w base t u ty e i ht hu hi hz hsize hby v n xs hown s h63 hbytes hbase
  refine ⟨v', w', hr, h2, h3, ?_⟩
  have hsmall : n + s.size ≤ 9223372036854775807 := by simp only [maxLen] at h63; omega
  rcases hown.2 with ⟨rfl, rfl⟩ | ⟨g, cap, cur, rfl, hbg, hg, hnc, hcm, hcs, htake⟩
  · by_cases hm : s.size = 0
    · left; rw [h4.2 ⟨rfl, hm⟩]
    · have hr2 := run_append_nil_string (P := P) w t u ty e i (.int .u8 0) ht hu hi hz s (by omega) (by omega) (by rw [hby]; omega)
      rw [hr] at hr2
      injection hr2 with hv _
      exact .inr ⟨w.heap.size, by rw [hv]; rfl, Nat.le_refl _⟩
  · by_cases hroom : n + s.size ≤ cap
    · have hcs' : cur.size = cap := by simpa using hcs
      have hr2 := Lib.run_append_room_string (P := P) w t u ty e i ht hu hi hsize g n cap cur hg s hroom (by omega)
      rw [hr] at hr2
      injection hr2 with hv _
      left; rw [hv]; rfl
    · have holds : ∀ j u, xs[j]? = some u → w.cell? ((⟨g, 0, none⟩ : Addr).add j) = some u := hown.cells (g := g) rfl
      have hxl : xs.length = n := by simpa using hown.1
      have hr2 := Lib.run_append_grow_string (P := P) w t u ty e i (.int .u8 0) ht hu hi hz ⟨g, 0, none⟩ n cap xs (by rw [hsize]; simpa using hxl) holds s (by omega) (by omega) (by rw [hby]; exact growslice_fits (by omega) (by omega))
      rw [hr] at hr2
      injection hr2 with hv _
      exact .inr ⟨w.heap.size, by rw [hv]; rfl, Nat.le_refl _⟩
/-- append onto a slice of bytes of the call's own, of a text. -/
theorem wp_append_text {o : Oper} {a : Act} {K : Act → World → Prop} {Q : Exit → Act → World → Prop} (s x : Operand) (t u : TypeId)
    (ho : o.op = .call { callee := .builtin .append, args := #[s, x], argTypes := #[t, u] })
    (base : Nat) (e : TypeId) (i : TypeInfo) (ht : P.underlying t = some (.slice e)) (hu : P.underlying u = some .string) (hi : P.info? e = some i) (hz : i.zero = some (.int .u8 0))
    (hsize : i.size = 1) (hby : i.bytes = 1)
    (v : Value) (n : Nat) (xs : List Value) (hs : a.eval s = v) (hown : w.ownsRow base e 1 v n xs) (str : ByteArray) (hy : a.eval x = .string str)
    (h63 : n + str.size ≤ maxLen) (hbytes : n + str.size ≤ 140737488355328) (hbase : base ≤ w.heap.size)
    (h : ∀ v' w', w'.ownsRow base e 1 v' (n + str.size) (xs ++ Lib.strCells str) → Kin w w' v v' → K (a.put o.dst v') w') : o.wp P a w K Q := by
  obtain ⟨v', w', hr, h2, h3⟩ := run_append_text_at (P := P) w base t u o.type e i ht hu hi hz hsize hby v n xs hown str h63 hbytes hbase
  unfold Oper.wp execOp
  simp only [ho, resolve, invoke, builtin, Sem.run_bind, Sem.run_pure, Result.andThen_ok, List.map_toArray, List.map_cons, List.map_nil, hs, hy, hr]
  exact h v' w' h2 h3
end
theorem size_alloc (w : World) (o : Obj) : (w.alloc o).heap.size = w.heap.size + 1 := by show (w.heap.push _).size = _; rw [Array.size_push]
theorem lies_lit (w : World) (cs : Array Value) (t : TypeId) (sz n : Nat) (h : cs.size = n * sz) : Lies (w.alloc (.cells cs t)) (w.heap.size + 1) sz (.slice (some ⟨w.heap.size, 0, none⟩) n n) n cs.toList :=
  Lies.some_ (at_new w cs t) (by rw [Array.length_toList]; exact h) (Nat.le_refl _)
theorem lies_at (w : World) (cs : Array Value) (t : TypeId) (sz n H : Nat) (hH : w.heap.size = H) (h : cs.size = n * sz) : Lies (w.alloc (.cells cs t)) (H + 1) sz (.slice (some ⟨H, 0, none⟩) n n) n cs.toList := by
  subst hH; exact lies_lit w cs t sz n h
theorem one1 (k : IntKind) (a : Int) : ∀ u ∈ (#[Value.int k a]).toList, u.oneCell' = true := by intro u hu; simp at hu; subst hu; rfl
theorem ints_one (k : IntKind) (l : List Int) : ∀ u ∈ l.map (Value.int k), u.oneCell' = true := by
  intro u hu
  simp only [List.mem_map] at hu
  obtain ⟨b, _, rfl⟩ := hu
  rfl
theorem add_succ (p : Addr) (j : Nat) : p.add (j + 1) = ⟨p.block, p.off + (j + 1), none⟩ := by unfold Addr.add; rw [if_neg (by omega)]
theorem bel_alloc (w : World) (o : Obj) : Below w.heap.size w (w.alloc o) := (Below.refl _ _).alloc (Nat.le_refl _) o
theorem bel_trans {a b c : World} (h : Below a.heap.size a b) (k : Below b.heap.size b c) : Below a.heap.size a c := h.trans (k.mono h.size)
/-- A slice '.slice A n c', nil let in, whose cells are xs, below block B. -/
structure Sl (w : World) (B sz : Nat) (A : Option Addr) (n c : Nat) (xs : List Value) : Prop where
  len : xs.length = n * sz
  le : n ≤ c
  cap : c ≤ maxLen
  nil : A = none → c = 0
  at_ : 0 < n → ∃ ad, A = some ad ∧ At w B ad xs
section
variable {w w' : World} {B B' sz n c : Nat} {A : Option Addr} {xs : List Value} {v : Value}
theorem Sl.below (h : Sl w B sz A n c xs) (hb : Below B w w') : Sl w' B sz A n c xs :=
  ⟨h.len, h.le, h.cap, h.nil, fun hn => by obtain ⟨ad, e, ha⟩ := h.at_ hn; exact ⟨ad, e, ha.below hb⟩⟩
theorem Sl.more (h : Sl w B sz A n c xs) (hB : B ≤ B') : Sl w B' sz A n c xs :=
  ⟨h.len, h.le, h.cap, h.nil, fun hn => by obtain ⟨ad, e, ha⟩ := h.at_ hn; exact ⟨ad, e, ha.more hB⟩⟩
theorem Sl.on (h : Sl w w.heap.size sz A n c xs) (hb : Below w.heap.size w w') : Sl w' w'.heap.size sz A n c xs := (h.below hb).more hb.size
theorem Sl.lies (h : Sl w B sz A n c xs) : Lies w B sz (.slice A n c) n xs := by
  refine ⟨h.len, ?_⟩
  cases A with
  | none =>
    have hc := h.nil rfl
    have hn : n = 0 := by have := h.le; omega
    subst hc hn
    exact .inl ⟨rfl, rfl⟩
  | some ad => exact .inr ⟨ad, c, rfl, h.le, fun hn => by obtain ⟨ad', e, ha⟩ := h.at_ hn; injection e with e; subst e; exact ha⟩
theorem Sl.take (h : Sl w B sz A n c xs) {k : Nat} (hk : k ≤ n) : Sl w B sz A k c (xs.take (k * sz)) :=
  ⟨by rw [List.length_take, h.len]; exact Nat.min_eq_left (Nat.mul_le_mul_right _ hk), Nat.le_trans hk h.le, h.cap, h.nil, fun h0 => by obtain ⟨ad, e, ha⟩ := h.at_ (by omega); exact ⟨ad, e, ha.take _⟩⟩
theorem Sl.of_own {base : Nat} {e : TypeId} (h : w.ownsRow base e sz v n xs) : ∃ A c, v = .slice A n c ∧ Sl w w.heap.size sz A n c xs := by
  rcases h.2 with ⟨rfl, rfl⟩ | ⟨g, cap, cur, rfl, hb, hg, hc, hm, hs, ht⟩
  · exact ⟨none, 0, rfl, h.1, Nat.le_refl _, by unfold maxLen; omega, fun _ => rfl, fun h => absurd h (by omega)⟩
  · exact ⟨some ⟨g, 0, none⟩, cap, rfl, h.1, hc, hm, (fun e => by cases e), fun hn => ⟨_, rfl, (Array.getElem?_eq_some_iff.1 hg).1, h.cells (g := g) rfl⟩⟩
end
/-- A block that is known whole. -/
def Blk (w : World) (g : Nat) (t : TypeId) (cs : Array Value) : Prop := w.heap[g]? = some (.cells cs t (0, 0))
section
variable {w w' : World} {g : Nat} {t : TypeId} {cs : Array Value}
theorem Blk.lt (h : Blk w g t cs) : g < w.heap.size := (Array.getElem?_eq_some_iff.1 h).1
theorem Blk.cell (h : Blk w g t cs) (i : Nat) : w.cell? ⟨g, i, none⟩ = cs[i]? := cell_of_row w g i cs t (0, 0) h
theorem Blk.frozen (h : Blk w g t cs) (i : Nat) : w.frozen? ⟨g, i, none⟩ = false := by
  unfold Blk at h
  simp [World.frozen?, h]
theorem Blk.new (w : World) (t : TypeId) (cs : Array Value) : Blk (w.alloc (.cells cs t)) w.heap.size t cs := heap_alloc_new w _
theorem Blk.alloc (h : Blk w g t cs) (o : Obj) : Blk (w.alloc o) g t cs := (Below.heap_alloc w o g h.lt).trans h
theorem Blk.set_ (h : Blk w g t cs) (i : Nat) (u : Value) : Blk (w.setCell ⟨g, i, none⟩ u) g t (cs.setIfInBounds i u) := by
  unfold Blk at h ⊢
  simp [World.setCell, Array.getElem?_modify, h]
theorem Blk.far (h : Blk w g t cs) {p : Addr} (hp : g ≠ p.block) (u : Value) : Blk (w.setCell p u) g t cs := (Below.heap_setCell w p u g hp).trans h
theorem Blk.below {B : Nat} (h : Blk w g t cs) (hb : Below B w w') (hg : g < B) : Blk w' g t cs := (hb.block g hg).trans h
theorem Blk.ne_ {g' : Nat} {t' : TypeId} {cs' : Array Value} (h : Blk w g t cs) (h' : Blk w g' t' cs') (hne : t ≠ t') : g ≠ g' := by
  rintro rfl
  unfold Blk at h h'
  rw [h] at h'
  injection h' with h'
  injection h' with _ ht
  exact hne ht
theorem own_blk_ne {base : Nat} {e : TypeId} {size n : Nat} {v : Value} {xs : List Value} (h : w.ownsRow base e size v n xs) (hg : Blk w g t cs) (hne : e ≠ t) : v.ownBlock ≠ some g := by
  rcases h.2 with ⟨rfl, _⟩ | ⟨g', cap, cur, rfl, _, hh, _⟩
  · simp [Value.ownBlock]
  · intro he
    have : g' = g := by simpa [Value.ownBlock] using he
    subst this
    exact Blk.ne_ (t := e) hh hg hne rfl
end
/-- From w to w' nothing has turned but block P and v's own block, and there are new ones; v' lies in v's block, or in a new one. -/
structure Far (w w' : World) (P : Nat) (v v' : Value) : Prop where
  os : w'.os = w.os
  tape : w'.tape = w.tape
  output : w'.output = w.output
  size : w.heap.size ≤ w'.heap.size
  block : ∀ k, k < w.heap.size → k ≠ P → v.ownBlock ≠ some k → w'.heap[k]? = w.heap[k]?
  lies : v'.ownBlock = v.ownBlock ∨ ∃ g, v'.ownBlock = some g ∧ w.heap.size ≤ g
section
variable {w w' : World} {P : Nat} {v v' : Value}
theorem Far.refl (w : World) (P : Nat) (v v' : Value) (h : v'.ownBlock = v.ownBlock) : Far w w P v v' := ⟨rfl, rfl, rfl, Nat.le_refl _, fun _ _ _ _ => rfl, .inl h⟩
theorem Far.below {B : Nat} (h : Far w w' P v v') (hB : B ≤ w.heap.size) (hP : B ≤ P) (hv : ∀ g, v.ownBlock = some g → B ≤ g) : Below B w w' :=
  ⟨h.os, h.tape, h.output, h.size, fun k hk => h.block k (by omega) (by omega) (fun e => by have := hv k e; omega)⟩
theorem Far.blk {g : Nat} {t : TypeId} {cs : Array Value} (h : Far w w' P v v') (hb : Blk w g t cs) (h1 : g ≠ P) (h2 : v.ownBlock ≠ some g) : Blk w' g t cs := (h.block g hb.lt h1 h2).trans hb
theorem own_keep {base sz n : Nat} {e : TypeId} {u : Value} {xs : List Value} (h : w.ownsRow base e sz u n xs) (hk : ∀ g, u.ownBlock = some g → w'.heap[g]? = w.heap[g]?) : w'.ownsRow base e sz u n xs := by
  refine ⟨h.1, ?_⟩
  rcases h.2 with h0 | ⟨g, cap, cur, rfl, hb, hg, rest⟩
  · exact .inl h0
  · exact .inr ⟨g, cap, cur, rfl, hb, (hk g rfl).trans hg, rest⟩
theorem Far.own {base sz n : Nat} {e : TypeId} {u : Value} {xs : List Value} (h : Far w w' P v v') (ho : w.ownsRow base e sz u n xs) (hP : u.ownBlock ≠ some P) (hv : ∀ g, u.ownBlock = some g → v.ownBlock ≠ some g) : w'.ownsRow base e sz u n xs :=
  own_keep ho fun g hg => h.block g (ho.lt g hg).2 (fun e => hP (by rw [hg, e])) (hv g hg)
theorem Far.of_kin {u : Value} (h : Kin w w' v v') : Far w w' P v v' := ⟨h.1.os, h.1.tape, h.1.output, h.1.size, fun k hk _ hv => h.1.block k hk (Ne.symm hv), h.2⟩
end
end Go.Proofs.Ytnpmjljpaaaljaa.Mem
