/- page.read, page.write; a page's block. -/
import Derived.Test.YtbpgjpopmohbmaaBase
namespace Go.Proofs.Ytbpgjpopmohbmaa.Mem
open Go.RowKit Go.Proofs.Ytbpgjpopmohbmaa.Nums
set_option linter.unusedVariables false
set_option linter.unusedSimpArgs false
set_option maxRecDepth 100000
/-- bytes as cells -/
def u8s (l : List UInt8) : List Value := l.map fun b => Value.int .u8 (b.toNat : Int)
theorem u8s_len (l : List UInt8) : (u8s l).length = l.length := by simp [u8s]
theorem u8s_one (l : List UInt8) : ∀ u ∈ u8s l, u.oneCell' = true := by
  intro u hu
  simp only [u8s, List.mem_map] at hu
  obtain ⟨b, _, rfl⟩ := hu
  rfl
theorem u8s_app (a b : List UInt8) : u8s (a ++ b) = u8s a ++ u8s b := by simp [u8s]
theorem u8s_take (x : List UInt8) (k : Nat) : (u8s x).take k = u8s (x.take k) := by simp [u8s, List.map_take]
theorem u8s_get {l : List UInt8} {j : Nat} {b : UInt8} (h : l[j]? = some b) : (u8s l)[j]? = some (.int .u8 (b.toNat : Int)) := by simp [u8s, h]
theorem u8s_at {w : World} {B : Nat} {ad : Addr} {l : List UInt8} (h : At w B ad (u8s l)) {j : Nat} {b : UInt8} (hb : l[j]? = some b) : w.cell? (ad.add j) = some (.int .u8 (b.toNat : Int)) := h.2 j _ (u8s_get hb)
theorem len_of {w : World} {B n c : Nat} {A : Option Addr} {x : List UInt8} (h : Sl w B 1 A n c (u8s x)) : x.length = n := by have := h.len; rw [u8s_len] at this; omega
theorem take_succ_of {α : Type} {l : List α} {k : Nat} {v : α} (h : l[k]? = some v) : l.take (k + 1) = l.take k ++ [v] := by
  obtain ⟨h1, h2⟩ := List.getElem?_eq_some_iff.1 h
  rw [List.take_succ_eq_append_getElem h1, h2]
/-- the number that bytes make, the lowest first -/
def leN : List UInt8 → Nat
  | [] => 0
  | b :: l => b.toNat + 256 * leN l
theorem leN_snoc (l : List UInt8) (b : UInt8) : leN (l ++ [b]) = leN l + b.toNat * 2 ^ (8 * l.length) := by
  induction l with
  | nil => simp [leN]
  | cons a l ih =>
    show a.toNat + 256 * leN (l ++ [b]) = a.toNat + 256 * leN l + b.toNat * 2 ^ (8 * (l.length + 1))
    have e : 256 * (b.toNat * 2 ^ (8 * l.length)) = b.toNat * 2 ^ (8 * (l.length + 1)) := by
      rw [show 8 * (l.length + 1) = 8 * l.length + 8 by omega, Nat.pow_add, Nat.mul_left_comm, Nat.mul_comm 256]
    rw [ih, Nat.mul_add, e, Nat.add_assoc]
theorem leN_lt (l : List UInt8) : leN l < 2 ^ (8 * l.length) := by
  induction l with
  | nil => simp [leN]
  | cons a l ih =>
    show a.toNat + 256 * leN l < 2 ^ (8 * (l.length + 1))
    rw [show 8 * (l.length + 1) = 8 * l.length + 8 by omega, Nat.pow_add]
    have := a.toNat_lt
    omega
theorem or_at (Z k : Nat) (b : UInt8) (hZ : Z < 2 ^ (8 * k)) (hk : k < 8) : bits .or .u64 (Z : Int) (IntKind.u64.wrap (IntKind.u64.wrap (b.toNat : Int) * 2 ^ (8 * k))) = ((Z + b.toNat * 2 ^ (8 * k) : Nat) : Int) := by
  have hb := b.toNat_lt
  have hp : 2 ^ (8 * k) ≤ 2 ^ 56 := Nat.pow_le_pow_right (by omega) (by omega)
  have hm : b.toNat * 2 ^ (8 * k) ≤ 255 * 2 ^ 56 := Nat.mul_le_mul (by omega) hp
  have e1 : IntKind.u64.wrap (b.toNat : Int) = ((b.toNat : Nat) : Int) := by rw [IntKind.wrap_u64]; omega
  have e2 : ((b.toNat : Nat) : Int) * 2 ^ (8 * k) = ((b.toNat * 2 ^ (8 * k) : Nat) : Int) := by push_cast; rfl
  have e3 := Nat.shiftLeft_add_eq_or_of_lt (i := 8 * k) (b := Z) hZ b.toNat
  rw [Nat.shiftLeft_eq] at e3
  rw [e1, e2]
  obtain ⟨M, hM⟩ : ∃ M, b.toNat * 2 ^ (8 * k) = M := ⟨_, rfl⟩
  rw [hM] at hm e3 ⊢
  have e4 : IntKind.u64.wrap (M : Int) = ((M : Nat) : Int) := by rw [IntKind.wrap_u64]; omega
  rw [e4, u64_or_nat _ _ (by omega) (by omega), Nat.or_comm, ← e3, Nat.add_comm]
/-- page.read: the number of at most eight bytes, the lowest first; nothing turns -/
theorem read_any (x : List UInt8) (B : Nat) (A : Option Addr) (n c : Nat) (w : World) (hn : n ≤ 8) (hx : Sl w B 1 A n c (u8s x)) :
    Calls Try.prog 72 #[.slice A n c] w fun e w' => e = .returned (.int .u64 (leN x : Nat)) ∧ w = w' := by
  have HL := Lib.hid (len_of hx)
  have HX := Lib.hid hx
  have hle := hx.le
  have hcap := hx.cap
  unfold maxLen at hcap
  clear hx
  go_enter Try.func72, Try.ntmps72
  go_wp2_with fail
  go_loop [3, 8] (fun u i => ∃ k : Nat, k ≤ n ∧ i = .int .i64 k ∧ u = .int .u64 (leN (x.take k) : Nat)) (fun _ i => n - (intOf i).toNat)
  case atStart => exact ⟨0, by omega, rfl, rfl⟩
  case round =>
    obtain ⟨k, hk, rfl, rfl⟩ := hrel
    by_cases hlt : k < n
    · have hlt' : (k : Int) < n := by omega
      obtain ⟨b, hb⟩ : ∃ b, x[k]? = some b := ⟨_, List.getElem?_eq_getElem (by rw [HL.out]; omega)⟩
      obtain ⟨ad, hA, hAt⟩ := HX.out.at_ (by omega)
      subst hA
      have x0 := u8s_at hAt hb
      have HS : Hid (leN (x.take (k + 1)) = leN (x.take k) + b.toNat * 2 ^ (8 * k)) := Lib.hid (by rw [take_succ_of hb, leN_snoc, List.length_take, Nat.min_eq_left (by rw [HL.out]; omega)])
      have hlt2 : leN (x.take k) < 2 ^ (8 * k) := by
        have h1 := leN_lt (x.take k)
        rwa [List.length_take, Nat.min_eq_left (by rw [HL.out]; omega)] at h1
      have h8k : (8 : Int) * k ≤ 56 := by omega
      have h8z : (0 : Int) ≤ 8 * k := by omega
      have h8n : ((8 : Int) * k).toNat = 8 * k := by omega
      have h8w : IntKind.i64.wrap ((8 : Int) * k) = 8 * k := by rw [IntKind.wrap_i64]; omega
      generalize leN (x.take k) = Z at *
      have HZ := Lib.hid hlt2
      clear hb hlt2 hAt
      go_wp2_with fail
      go_round
      case rel =>
        refine ⟨k + 1, by omega, by go_num, ?_⟩
        rw [or_at Z k b HZ.out (by omega), HS.out]
      case measure => simp [intOf]; omega
    · obtain rfl : k = n := by omega
      have e : x.take k = x := List.take_of_length_le (by rw [HL.out]; exact Nat.le_refl _)
      rw [e]
      clear e
      go_wp2_with fail
      go_ret
      exact ⟨rfl, rfl⟩
/-- the lowest m bytes of a number -/
def nb (U m : Nat) : List UInt8 := (List.range m).map fun k => UInt8.ofNat (U / 2 ^ (8 * k))
theorem nb_len (U m : Nat) : (nb U m).length = m := by simp [nb]
theorem nb_get (U m k : Nat) (hk : k < m) : (nb U m)[k]? = some (UInt8.ofNat (U / 2 ^ (8 * k))) := by simp [nb, hk]
theorem nb_succ (U k : Nat) : nb U (k + 1) = nb U k ++ [UInt8.ofNat (U / 2 ^ (8 * k))] := by simp [nb, List.range_succ]
theorem leN_nb (U : Nat) : ∀ m, U < 2 ^ (8 * m) → leN (nb U m) = U := by
  have h : ∀ m, leN (nb U m) = U % 2 ^ (8 * m) := by
    intro m
    induction m with
    | zero => simp [nb, leN, Nat.mod_one]
    | succ m ih =>
      rw [nb_succ, leN_snoc, nb_len, ih]
      have e : (UInt8.ofNat (U / 2 ^ (8 * m))).toNat = U / 2 ^ (8 * m) % 256 := by simp
      rw [e, show 8 * (m + 1) = 8 * m + 8 by omega, Nat.pow_add, Nat.mod_mul, Nat.mul_comm (2 ^ (8 * m))]
  intro m hm
  rw [h, Nat.mod_eq_of_lt hm]
/-- X with b laid over it from a on -/
def lay (X : List UInt8) (a : Nat) (b : List UInt8) : List UInt8 := X.take a ++ b ++ X.drop (a + b.length)
theorem lay_len {X b : List UInt8} {a : Nat} (h : a + b.length ≤ X.length) : (lay X a b).length = X.length := by
  unfold lay
  rw [List.length_append, List.length_append, List.length_take, List.length_drop]
  omega
theorem lay_nil (X : List UInt8) (a : Nat) : lay X a [] = X := by
  unfold lay
  rw [List.length_nil, List.append_nil, Nat.add_zero, List.take_append_drop]
theorem lay_set {X b : List UInt8} {a : Nat} (h : a + b.length < X.length) (d : UInt8) : (lay X a b).set (a + b.length) d = lay X a (b ++ [d]) := by
  unfold lay
  have h1 : (X.take a ++ b).length = a + b.length := by rw [List.length_append, List.length_take]; omega
  rw [List.set_append_right _ _ (by rw [h1]; exact Nat.le_refl _), h1, Nat.sub_self]
  have h2 : X.drop (a + b.length) = X[a + b.length] :: X.drop (a + b.length + 1) := List.drop_eq_getElem_cons h
  rw [h2, List.set_cons_zero, List.length_append, List.length_singleton, List.append_assoc, List.append_assoc, List.append_assoc, Nat.add_assoc]
  rfl
theorem lay_get {X b : List UInt8} {a : Nat} (h : a + b.length ≤ X.length) {j : Nat} (hj : j < b.length) : (lay X a b)[a + j]? = b[j]? := by
  unfold lay
  have h1 : (X.take a).length = a := by rw [List.length_take]; omega
  rw [List.append_assoc, List.getElem?_append_right (by rw [h1]; omega), h1, Nat.add_sub_cancel_left, List.getElem?_append_left hj]
theorem lay_other {X b : List UInt8} {a : Nat} (h : a + b.length ≤ X.length) {j : Nat} (hj : j < a ∨ a + b.length ≤ j) : (lay X a b)[j]? = X[j]? := by
  unfold lay
  have h1 : (X.take a).length = a := by rw [List.length_take]; omega
  rcases hj with hj | hj
  · rw [List.append_assoc, List.getElem?_append_left (by rw [h1]; exact hj), List.getElem?_take, if_pos hj]
  · rw [List.getElem?_append_right (by rw [List.length_append, h1]; exact hj), List.length_append, h1, List.getElem?_drop]
    congr 1
    omega
/-- a block of bytes, known whole -/
def BB (w : World) (g : Nat) (t : TypeId) (X : List UInt8) : Prop := Blk w g t (u8s X).toArray
section
variable {w w' : World} {g : Nat} {t : TypeId} {X : List UInt8}
theorem BB.cell (h : BB w g t X) {i : Nat} {b : UInt8} (hb : X[i]? = some b) : w.cell? ⟨g, i, none⟩ = some (.int .u8 (b.toNat : Int)) := by
  rw [Blk.cell h, List.getElem?_toArray]
  exact u8s_get hb
theorem BB.frozen (h : BB w g t X) (i : Nat) : w.frozen? ⟨g, i, none⟩ = false := Blk.frozen h i
theorem BB.put (h : BB w g t X) (i : Nat) (b : UInt8) : BB (w.setCell ⟨g, i, none⟩ (.int .u8 (b.toNat : Int))) g t (X.set i b) := by
  have h1 := Blk.set_ h i (.int .u8 (b.toNat : Int))
  unfold BB
  have e : u8s (X.set i b) = (u8s X).set i (.int .u8 (b.toNat : Int)) := by unfold u8s; rw [List.map_set]
  rw [e, ← List.setIfInBounds_toArray]
  exact h1
theorem BB.at_ (h : BB w g t X) (a m : Nat) : At w w.heap.size ⟨g, a, none⟩ (u8s ((X.drop a).take m)) := by
  refine ⟨Blk.lt h, fun j u hu => ?_⟩
  have e : (⟨g, a, none⟩ : Addr).add j = ⟨g, a + j, none⟩ := by unfold Addr.add; split <;> simp_all
  rw [e, Blk.cell h, List.getElem?_toArray]
  unfold u8s at hu ⊢
  rw [List.getElem?_map] at hu ⊢
  rw [List.getElem?_take] at hu
  split at hu
  · rw [List.getElem?_drop] at hu; exact hu
  · cases hu
theorem BB.sl (h : BB w g t X) (a m c : Nat) (hX : a + m ≤ X.length) (hc : m ≤ c) (hcm : c ≤ maxLen) : Sl w w.heap.size 1 (some ⟨g, a, none⟩) m c (u8s ((X.drop a).take m)) :=
  ⟨by rw [u8s_len, List.length_take, List.length_drop]; omega, hc, hcm, (fun e => by cases e), fun _ => ⟨_, rfl, h.at_ a m⟩⟩
end
/-- only block g has turned -/
structure Only (g : Nat) (w w' : World) : Prop where
  os : w'.os = w.os
  tape : w'.tape = w.tape
  output : w'.output = w.output
  size : w.heap.size ≤ w'.heap.size
  block : ∀ k, k < w.heap.size → k ≠ g → w'.heap[k]? = w.heap[k]?
section
variable {w w' w'' : World} {g : Nat}
theorem Only.refl (g : Nat) (w : World) : Only g w w := ⟨rfl, rfl, rfl, Nat.le_refl _, fun _ _ _ => rfl⟩
theorem Only.trans (h : Only g w w') (k : Only g w' w'') : Only g w w'' :=
  ⟨k.os.trans h.os, k.tape.trans h.tape, k.output.trans h.output, Nat.le_trans h.size k.size, fun i hi hg => (k.block i (Nat.lt_of_lt_of_le hi h.size) hg).trans (h.block i hi hg)⟩
theorem Only.set_ (h : Only g w w') (i : Nat) (u : Value) : Only g w (w'.setCell ⟨g, i, none⟩ u) :=
  ⟨h.os, h.tape, h.output, by have := h.size; simpa [World.setCell] using this, fun k hk hg => (Below.heap_setCell w' ⟨g, i, none⟩ u k hg).trans (h.block k hk hg)⟩
theorem Only.below {B : Nat} (h : Only g w w') (hB : B ≤ w.heap.size) (hg : B ≤ g) : Below B w w' := ⟨h.os, h.tape, h.output, h.size, fun k hk => h.block k (by omega) (by omega)⟩
theorem Only.of_below (h : Below w.heap.size w w') : Only g w w' := ⟨h.os, h.tape, h.output, h.size, fun k hk _ => h.block k hk⟩
theorem Only.blk {k : Nat} {t : TypeId} {cs : Array Value} (h : Only g w w') (hb : Blk w k t cs) (hne : k ≠ g) : Blk w' k t cs := (h.block k hb.lt hne).trans hb
end
theorem byte_cell (U k : Nat) : IntKind.u8.wrap ((U : Int) / 2 ^ (8 * k)) = (((UInt8.ofNat (U / 2 ^ (8 * k))).toNat : Nat) : Int) := by
  have e : ((U : Int) / 2 ^ (8 * k)) = ((U / 2 ^ (8 * k) : Nat) : Int) := by push_cast; rfl
  have e2 : (UInt8.ofNat (U / 2 ^ (8 * k))).toNat = U / 2 ^ (8 * k) % 256 := by simp
  rw [e, e2, IntKind.wrap_u8]
  omega
/-- page.write: the lowest bytes of a number laid over a block's -/
theorem write_any (g : Nat) (t : TypeId) (X : List UInt8) (a m c U : Nat) (w : World) (hb : BB w g t X) (hX : a + m ≤ X.length) (hm : m ≤ 8) (hc : m ≤ c) (hcm : c ≤ maxLen) (hU : U < 18446744073709551616) :
    Calls Try.prog 97 #[.slice (some ⟨g, a, none⟩) m c, .int .u64 U] w fun e w' => e = .returned (.tuple #[]) ∧ BB w' g t (lay X a (nb U m)) ∧ Only g w w' := by
  have HB := Lib.hid hb
  have HX := Lib.hid hX
  unfold maxLen at hcm
  clear hb hX
  go_enter Try.func97, Try.ntmps97
  go_wp2_with fail
  go_loopw [7] (fun i wr => ∃ k : Nat, k ≤ m ∧ i = .int .i64 k ∧ BB wr g t (lay X a (nb U k)) ∧ Only g w wr) (fun i _ => m - (intOf i).toNat)
  case atStart => exact ⟨0, by omega, rfl, by rw [show nb U 0 = [] from rfl, lay_nil]; exact HB.out, Only.refl _ _⟩
  case round =>
    obtain ⟨k, hk, rfl, hbk, ho⟩ := hrel
    have HBK := Lib.hid hbk
    have HO := Lib.hid ho
    clear hbk ho
    by_cases hlt : k < m
    · have hlt' : (k : Int) < m := by omega
      have hl := nb_len U k
      have hll := lay_len (X := X) (b := nb U k) (a := a) (by rw [hl]; have := HX.out; omega)
      obtain ⟨d, hd⟩ : ∃ d, (lay X a (nb U k))[a + k]? = some d := ⟨_, List.getElem?_eq_getElem (by rw [hll]; have := HX.out; omega)⟩
      have q0 := HBK.out.cell hd
      have p0 := HBK.out.frozen (a + k)
      have h8k : (8 : Int) * k ≤ 56 := by omega
      have h8z : (0 : Int) ≤ 8 * k := by omega
      have h8n : ((8 : Int) * k).toNat = 8 * k := by omega
      have h8w : IntKind.i64.wrap ((8 : Int) * k) = 8 * k := by rw [IntKind.wrap_i64]; omega
      have hbc := byte_cell U k
      have HP := Lib.hid (HBK.out.put (a + k) (UInt8.ofNat (U / 2 ^ (8 * k))))
      have HN := Lib.hid (lay_set (X := X) (b := nb U k) (a := a) (by rw [hl]; have := HX.out; omega) (UInt8.ofNat (U / 2 ^ (8 * k))))
      have HL := Lib.hid hl
      clear hl hll hd
      go_wp2_with fail
      go_roundw
      case rel =>
        refine ⟨k + 1, by omega, by go_num, ?_, HO.out.set_ _ _⟩
        have h := HP.out
        have h2 := HN.out
        rw [HL.out] at h2
        rw [h2, ← nb_succ] at h
        exact h
      case measure => simp [intOf]; omega
    · obtain rfl : k = m := by omega
      go_wp2_with fail
      exact bodyPost_end (v := .tuple #[]) (by simp [results, Try.results97, go_sem]) rfl ⟨rfl, HBK.out, HO.out⟩
end Go.Proofs.Ytbpgjpopmohbmaa.Mem
