/- Bytes cut out of a page, a page behind pack. -/
import Derived.Test.YtbpgjpopmohbmaaPageI
import Derived.Test.YtbpgjpopmohbmaaPageF
namespace Go.Proofs.Ytbpgjpopmohbmaa.Mem
open Go.RowKit Go.Proofs.Ytbpgjpopmohbmaa.Nums
set_option linter.unusedVariables false
set_option linter.unusedSimpArgs false
set_option maxRecDepth 100000
/-- m bytes from a on -/
def sub (X : List UInt8) (a m : Nat) : List UInt8 := (X.drop a).take m
theorem sub_len {X : List UInt8} {a m : Nat} (h : a + m ≤ X.length) : (sub X a m).length = m := by unfold sub; rw [List.length_take, List.length_drop]; omega
theorem sub_get {X : List UInt8} {a m j : Nat} (h : j < m) : (sub X a m)[j]? = X[a + j]? := by unfold sub; rw [List.getElem?_take, if_pos h, List.getElem?_drop]
theorem sub_out {X : List UInt8} {a m j : Nat} (h : m ≤ j) : (sub X a m)[j]? = none := by unfold sub; rw [List.getElem?_take, if_neg (by omega)]
theorem sub_ext {X b : List UInt8} {a m : Nat} (hb : b.length = m) (h : ∀ j, j < m → X[a + j]? = b[j]?) : sub X a m = b := by
  apply List.ext_getElem?
  intro j
  by_cases hj : j < m
  · rw [sub_get hj, h j hj]
  · rw [sub_out (by omega), List.getElem?_eq_none (by omega)]
theorem sub_eq {X Y : List UInt8} {a m : Nat} (h : ∀ j, j < m → X[a + j]? = Y[a + j]?) : sub X a m = sub Y a m := by
  apply List.ext_getElem?
  intro j
  by_cases hj : j < m
  · rw [sub_get hj, sub_get hj, h j hj]
  · rw [sub_out (by omega), sub_out (by omega)]
theorem get_of_sub {X b : List UInt8} {a m j : Nat} (h : sub X a m = b) (hj : j < m) : X[a + j]? = b[j]? := by rw [← h, sub_get hj]
theorem sub_same {X b : List UInt8} {a : Nat} (h : a + b.length ≤ X.length) : sub (lay X a b) a b.length = b := sub_ext rfl fun j hj => lay_get h hj
theorem sub_other {X b : List UInt8} {a c m : Nat} (h : a + b.length ≤ X.length) (h2 : c + m ≤ a ∨ a + b.length ≤ c) : sub (lay X a b) c m = sub X c m :=
  sub_eq fun j hj => lay_other h (by omega)
theorem get2_sub (X : List UInt8) (a : Nat) : get2 X a = leN (sub X a 2) := rfl
theorem sub_two {X b c : List UInt8} {a m n : Nat} (h1 : sub X a m = b) (h2 : sub X (a + m) n = c) (hb : b.length = m) (hc : c.length = n) : sub X a (m + n) = b ++ c := by
  refine sub_ext (by rw [List.length_append]; omega) fun j hj => ?_
  by_cases hjm : j < m
  · rw [get_of_sub h1 hjm, List.getElem?_append_left (by omega)]
  · have e := get_of_sub h2 (j := j - m) (by omega)
    rw [List.getElem?_append_right (by omega), hb, ← e]
    congr 1
    omega
theorem sub_fst {X b c : List UInt8} {a m n : Nat} (h : sub X a (m + n) = b ++ c) (hb : b.length = m) : sub X a m = b :=
  sub_ext hb fun j hj => by rw [get_of_sub h (by omega), List.getElem?_append_left (by omega)]
theorem sub_snd {X b c : List UInt8} {a m n : Nat} (h : sub X a (m + n) = b ++ c) (hb : b.length = m) (hc : c.length = n) : sub X (a + m) n = c :=
  sub_ext hc fun j hj => by
    have e := get_of_sub h (j := m + j) (by omega)
    rw [List.getElem?_append_right (by omega), hb] at e
    rw [Nat.add_assoc, e]
    congr 1
    omega
/-- place touches the header's second number, the slot's four bytes and the version's -/
theorem place_sub {X vl : List UInt8} {s at_ c m : Nat} (hX : X.length = 512) (h1 : at_ + vl.length ≤ 512) (h2 : 8 + 4 * s ≤ 512) (hc : c + m ≤ 2 ∨ 4 ≤ c) (hs : c + m ≤ 4 + 4 * s ∨ 8 + 4 * s ≤ c) (ha : c + m ≤ at_ ∨ at_ + vl.length ≤ c) : sub (placeL X s at_ vl) c m = sub X c m := by
  unfold placeL
  have e1 := lay_len (X := X) (b := vl) (a := at_) (by omega)
  have e2 := lay_len (X := lay X at_ vl) (b := nb at_ 2) (a := 2) (by rw [nb_len, e1]; omega)
  have e3 := lay_len (X := lay (lay X at_ vl) 2 (nb at_ 2)) (b := nb at_ 2) (a := 4 + 4 * s) (by rw [nb_len, e2, e1]; omega)
  rw [sub_other (by rw [nb_len, e3, e2, e1]; omega) (by rw [nb_len]; omega), sub_other (by rw [nb_len, e2, e1]; omega) (by rw [nb_len]; omega), sub_other (by rw [nb_len, e1]; omega) (by rw [nb_len]; omega), sub_other (by omega) ha]
theorem place_bg {X vl : List UInt8} {s at_ : Nat} (hX : X.length = 512) (h1 : at_ + vl.length ≤ 512) (h2 : 8 + 4 * s ≤ 512) : sub (placeL X s at_ vl) 2 2 = nb at_ 2 := by
  unfold placeL
  have e1 := lay_len (X := X) (b := vl) (a := at_) (by omega)
  have e2 := lay_len (X := lay X at_ vl) (b := nb at_ 2) (a := 2) (by rw [nb_len, e1]; omega)
  have e3 := lay_len (X := lay (lay X at_ vl) 2 (nb at_ 2)) (b := nb at_ 2) (a := 4 + 4 * s) (by rw [nb_len, e2, e1]; omega)
  rw [sub_other (by rw [nb_len, e3, e2, e1]; omega) (by rw [nb_len]; omega), sub_other (by rw [nb_len, e2, e1]; omega) (by rw [nb_len]; omega)]
  have := sub_same (X := lay X at_ vl) (b := nb at_ 2) (a := 2) (by rw [nb_len, e1]; omega)
  rwa [nb_len] at this
theorem place_slot {X vl : List UInt8} {s at_ : Nat} (hX : X.length = 512) (h1 : at_ + vl.length ≤ 512) (h2 : 8 + 4 * s ≤ 512) : sub (placeL X s at_ vl) (4 + 4 * s) 4 = nb at_ 2 ++ nb vl.length 2 := by
  unfold placeL
  have e1 := lay_len (X := X) (b := vl) (a := at_) (by omega)
  have e2 := lay_len (X := lay X at_ vl) (b := nb at_ 2) (a := 2) (by rw [nb_len, e1]; omega)
  have e3 := lay_len (X := lay (lay X at_ vl) 2 (nb at_ 2)) (b := nb at_ 2) (a := 4 + 4 * s) (by rw [nb_len, e2, e1]; omega)
  refine sub_two (m := 2) (n := 2) ?_ ?_ (nb_len _ _) (nb_len _ _)
  · rw [sub_other (by rw [nb_len, e3, e2, e1]; omega) (by rw [nb_len]; omega)]
    have := sub_same (X := lay (lay X at_ vl) 2 (nb at_ 2)) (b := nb at_ 2) (a := 4 + 4 * s) (by rw [nb_len, e2, e1]; omega)
    rwa [nb_len] at this
  · have := sub_same (X := lay (lay (lay X at_ vl) 2 (nb at_ 2)) (4 + 4 * s) (nb at_ 2)) (b := nb vl.length 2) (a := 6 + 4 * s) (by rw [nb_len, e3, e2, e1]; omega)
    rw [nb_len] at this
    rw [show 4 + 4 * s + 2 = 6 + 4 * s by omega]
    exact this
theorem place_ver {X vl : List UInt8} {s at_ : Nat} (hX : X.length = 512) (h1 : at_ + vl.length ≤ 512) (h2 : 8 + 4 * s ≤ at_) : sub (placeL X s at_ vl) at_ vl.length = vl := by
  unfold placeL
  have e1 := lay_len (X := X) (b := vl) (a := at_) (by omega)
  have e2 := lay_len (X := lay X at_ vl) (b := nb at_ 2) (a := 2) (by rw [nb_len, e1]; omega)
  have e3 := lay_len (X := lay (lay X at_ vl) 2 (nb at_ 2)) (b := nb at_ 2) (a := 4 + 4 * s) (by rw [nb_len, e2, e1]; omega)
  rw [sub_other (by rw [nb_len, e3, e2, e1]; omega) (by rw [nb_len]; omega), sub_other (by rw [nb_len, e2, e1]; omega) (by rw [nb_len]; omega), sub_other (by rw [nb_len, e1]; omega) (by rw [nb_len]; omega)]
  exact sub_same (by omega)
theorem leN_nb2 {U : Nat} (h : U < 65536) : leN (nb U 2) = U := leN_nb U 2 (by omega)
/-- the page behind the first k slots' turn in pack -/
def pk (X : List UInt8) : Nat → List UInt8
  | 0 => lay (lay X (bgN X) (List.replicate (512 - bgN X) 0)) 2 (nb 512 2)
  | k + 1 => if szS X k = 0 then pk X k else placeL (pk X k) k (512 - suN X (k + 1)) (sub X (frS X k) (szS X k))
structure PkOk (X : List UInt8) : Prop where
  len : X.length = 512
  fine : Fine X
  sum : 4 + 4 * slN X + suN X (slN X) ≤ 512
  bg : bgN X < 512
  low : 4 + 4 * slN X ≤ bgN X
theorem suN_mono (X : List UInt8) {j k : Nat} (h : j ≤ k) : suN X j ≤ suN X k := by
  induction h with
  | refl => exact Nat.le_refl _
  | step h ih => exact Nat.le_trans ih (Nat.le_add_right _ _)
section
variable {X : List UInt8}
theorem pk_len0 (h : PkOk X) : (lay X (bgN X) (List.replicate (512 - bgN X) 0)).length = 512 := by
  have := h.bg
  rw [lay_len (by rw [List.length_replicate, h.len]; omega), h.len]
theorem pk_len (h : PkOk X) : ∀ k, k ≤ slN X → (pk X k).length = 512
  | 0, _ => by unfold pk; rw [lay_len (by rw [nb_len, pk_len0 h]; omega), pk_len0 h]
  | k + 1, hk => by
    have ih := pk_len h k (by omega)
    have hm := suN_mono X hk
    have hs := h.sum
    have hf := h.fine.fit k (by omega)
    have ht := h.fine.top
    unfold pk
    split
    · exact ih
    · refine placeL_len ih ?_ (by omega)
      have e : (sub X (frS X k) (szS X k)).length = szS X k := sub_len (by rw [h.len]; exact hf)
      rw [e]
      show 512 - (suN X k + szS X k) + szS X k ≤ 512
      have : suN X (k + 1) = suN X k + szS X k := rfl
      omega
theorem pk_bg (h : PkOk X) : ∀ k, k ≤ slN X → sub (pk X k) 2 2 = nb (512 - suN X k) 2
  | 0, _ => by
    unfold pk
    have := sub_same (X := lay X (bgN X) (List.replicate (512 - bgN X) 0)) (b := nb 512 2) (a := 2) (by rw [nb_len, pk_len0 h]; omega)
    rwa [nb_len] at this
  | k + 1, hk => by
    have ih := pk_bg h k (by omega)
    have hm := suN_mono X hk
    have hs := h.sum
    have hf := h.fine.fit k (by omega)
    have ht := h.fine.top
    unfold pk
    split
    · rename_i hz
      rw [ih, show suN X (k + 1) = suN X k + szS X k from rfl, hz, Nat.add_zero]
    · have e : (sub X (frS X k) (szS X k)).length = szS X k := sub_len (by rw [h.len]; exact hf)
      refine place_bg (pk_len h k (by omega)) ?_ (by omega)
      rw [e]
      have : suN X (k + 1) = suN X k + szS X k := rfl
      omega
theorem pk_bgN (h : PkOk X) {k : Nat} (hk : k ≤ slN X) : bgN (pk X k) = 512 - suN X k := by
  show leN (sub (pk X k) 2 2) = _
  rw [pk_bg h k hk, leN_nb2 (by omega)]
end
end Go.Proofs.Ytbpgjpopmohbmaa.Mem
