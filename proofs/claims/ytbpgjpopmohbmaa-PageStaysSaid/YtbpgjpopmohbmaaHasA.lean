/- A page as slots and versions, and the one list of bytes that it is. -/
import Derived.Test.YtbpgjpopmohbmaaPackI
namespace Go.Proofs.Ytbpgjpopmohbmaa.Mem
open Go.RowKit Go.Proofs.Ytbpgjpopmohbmaa.Nums
set_option linter.unusedVariables false
set_option linter.unusedSimpArgs false
set_option maxRecDepth 100000
/-- a version: its numbers, one more than its Next's, its Data -/
structure Ver where
  r : Nat
  a : Nat
  b : Nat
  p : Nat
  s : Nat
  d : List UInt8
def Ver.bytes (v : Ver) : List UInt8 := verL v.r v.a v.b v.p v.s v.d
def Ver.sz (v : Ver) : Nat := 30 + v.d.length
theorem Ver.len (v : Ver) : v.bytes.length = v.sz := verL_len _ _ _ _ _ _
structure Ver.ok (v : Ver) : Prop where
  r : v.r ≤ 1099511627776
  a : v.a ≤ 1099511627776
  b : v.b ≤ 1099511627776
  p : v.p ≤ 65536
  s : v.s ≤ 65535
  ps : v.p = 0 ↔ v.s = 0
  d : v.d.length ≤ 200
/-- slots: free, or a version and where it begins -/
abbrev SL := List (Option (Ver × Nat))
def slotB : Option (Ver × Nat) → List UInt8
  | none => List.replicate 4 0
  | some (v, f) => nb f 2 ++ nb v.sz 2
def osz : Option (Ver × Nat) → Nat
  | none => 0
  | some (v, _) => v.sz
def tot (L : SL) : Nat := (L.map osz).sum
theorem slotB_len (o : Option (Ver × Nat)) : (slotB o).length = 4 := by
  cases o with
  | none => simp [slotB]
  | some x => simp [slotB, nb_len]
structure Has (X : List UInt8) (L : SL) (st : Nat) : Prop where
  len : X.length = 512
  sl : sub X 0 2 = nb L.length 2
  bg : sub X 2 2 = nb st 2
  top : 4 + 4 * L.length ≤ st
  all : st ≤ 512
  sum : st + tot L ≤ 512
  slot : ∀ (s : Nat) (o : Option (Ver × Nat)), L[s]? = some o → sub X (4 + 4 * s) 4 = slotB o
  ver : ∀ (s : Nat) (v : Ver) (f : Nat), L[s]? = some (some (v, f)) → sub X f v.sz = v.bytes ∧ st ≤ f ∧ f + v.sz ≤ 512
  apart : ∀ (s s' : Nat) (v : Ver) (f : Nat) (v' : Ver) (f' : Nat), L[s]? = some (some (v, f)) → L[s']? = some (some (v', f')) → s ≠ s' → f + v.sz ≤ f' ∨ f' + v'.sz ≤ f
  rest : ∀ i, 4 + 4 * L.length ≤ i → i < 512 → (∀ (s : Nat) (v : Ver) (f : Nat), L[s]? = some (some (v, f)) → i < f ∨ f + v.sz ≤ i) → X[i]? = some 0
  okv : ∀ (s : Nat) (v : Ver) (f : Nat), L[s]? = some (some (v, f)) → v.ok
section
variable {X Y : List UInt8} {L : SL} {st : Nat}
theorem Has.eq (h : Has X L st) (k : Has Y L st) : X = Y := by
  apply List.ext_getElem?
  intro i
  by_cases h0 : i < 512
  · by_cases h1 : i < 2
    · have e1 := get_of_sub h.sl h1
      have e2 := get_of_sub k.sl h1
      rw [Nat.zero_add] at e1 e2
      rw [e1, e2]
    · by_cases h2 : i < 4
      · have e1 := get_of_sub h.bg (j := i - 2) (by omega)
        have e2 := get_of_sub k.bg (j := i - 2) (by omega)
        rw [show 2 + (i - 2) = i by omega] at e1 e2
        rw [e1, e2]
      · by_cases h3 : i < 4 + 4 * L.length
        · obtain ⟨o, ho⟩ : ∃ o, L[(i - 4) / 4]? = some o := ⟨_, List.getElem?_eq_getElem (by omega)⟩
          have e1 := get_of_sub (h.slot _ o ho) (j := (i - 4) % 4) (by omega)
          have e2 := get_of_sub (k.slot _ o ho) (j := (i - 4) % 4) (by omega)
          rw [show 4 + 4 * ((i - 4) / 4) + (i - 4) % 4 = i by omega] at e1 e2
          rw [e1, e2]
        · by_cases h4 : ∀ (s : Nat) (v : Ver) (f : Nat), L[s]? = some (some (v, f)) → i < f ∨ f + v.sz ≤ i
          · rw [h.rest i (by omega) h0 h4, k.rest i (by omega) h0 h4]
          · simp only [Classical.not_forall] at h4
            obtain ⟨s, v, f, hs, hn⟩ := h4
            have e1 := get_of_sub (h.ver s v f hs).1 (j := i - f) (by omega)
            have e2 := get_of_sub (k.ver s v f hs).1 (j := i - f) (by omega)
            rw [show f + (i - f) = i by omega] at e1 e2
            rw [e1, e2]
  · rw [List.getElem?_eq_none (by rw [h.len]; omega), List.getElem?_eq_none (by rw [k.len]; omega)]
theorem Has.slN (h : Has X L st) : slN X = L.length := by
  show leN (sub X 0 2) = _
  have := h.top
  have := h.all
  rw [h.sl, leN_nb2 (by omega)]
theorem Has.bgN (h : Has X L st) : bgN X = st := by
  show leN (sub X 2 2) = _
  have := h.all
  rw [h.bg, leN_nb2 (by omega)]
theorem Has.le (h : Has X L st) {s : Nat} {o : Option (Ver × Nat)} (hs : L[s]? = some o) : s < L.length := (List.getElem?_eq_some_iff.1 hs).1
theorem Has.szS (h : Has X L st) {s : Nat} {o : Option (Ver × Nat)} (hs : L[s]? = some o) : szS X s = osz o := by
  show leN (sub X (6 + 4 * s) 2) = _
  have e := h.slot s o hs
  cases o with
  | none =>
    have e2 := sub_snd (X := X) (a := 4 + 4 * s) (m := 2) (n := 2) (b := List.replicate 2 0) (c := List.replicate 2 0) (by rw [e]; rfl) rfl rfl
    rw [show 4 + 4 * s + 2 = 6 + 4 * s by omega] at e2
    rw [e2]
    rfl
  | some x =>
    obtain ⟨v, f⟩ := x
    have e2 := sub_snd (X := X) (a := 4 + 4 * s) (m := 2) (n := 2) (b := nb f 2) (c := nb v.sz 2) e (nb_len _ _) (nb_len _ _)
    rw [show 4 + 4 * s + 2 = 6 + 4 * s by omega] at e2
    have := (h.ver s v f hs).2
    rw [e2, leN_nb2 (by omega)]
    rfl
theorem Has.frS (h : Has X L st) {s : Nat} {v : Ver} {f : Nat} (hs : L[s]? = some (some (v, f))) : frS X s = f := by
  show leN (sub X (4 + 4 * s) 2) = _
  have e2 := sub_fst (X := X) (a := 4 + 4 * s) (m := 2) (n := 2) (b := nb f 2) (c := nb v.sz 2) (h.slot s _ hs) (nb_len _ _)
  have := (h.ver s v f hs).2
  rw [e2, leN_nb2 (by omega)]
theorem Has.frS0 (h : Has X L st) {s : Nat} (hs : L[s]? = some none) : Mem.frS X s = 0 := by
  show leN (sub X (4 + 4 * s) 2) = _
  have e2 := sub_fst (X := X) (a := 4 + 4 * s) (m := 2) (n := 2) (b := List.replicate 2 0) (c := List.replicate 2 0) (by rw [h.slot s _ hs]; rfl) rfl
  rw [e2]
  rfl
theorem Has.fine (h : Has X L st) : Fine X := by
  have h1 := h.top
  have h2 := h.all
  refine ⟨by rw [h.slN]; omega, fun s hs => ?_⟩
  rw [h.slN] at hs
  obtain ⟨o, ho⟩ : ∃ o, L[s]? = some o := ⟨_, List.getElem?_eq_getElem hs⟩
  rw [h.szS ho]
  cases o with
  | none => rw [h.frS0 ho]; simp [osz]
  | some x => obtain ⟨v, f⟩ := x; rw [h.frS ho]; exact (h.ver s v f ho).2.2
theorem tot_take_succ {k : Nat} {o : Option (Ver × Nat)} (h : L[k]? = some o) : tot (L.take (k + 1)) = tot (L.take k) + osz o := by
  unfold tot
  rw [take_succ_of h, List.map_append, List.sum_append]
  simp
theorem Has.suN (h : Has X L st) : ∀ k, k ≤ L.length → suN X k = tot (L.take k)
  | 0, _ => by simp [Mem.suN, tot]
  | k + 1, hk => by
    obtain ⟨o, ho⟩ : ∃ o, L[k]? = some o := ⟨_, List.getElem?_eq_getElem (by omega)⟩
    show Mem.suN X k + Mem.szS X k = _
    rw [h.suN k (by omega), h.szS ho, tot_take_succ ho]
theorem Has.su (h : Has X L st) : Mem.suN X (Mem.slN X) = tot L := by
  rw [h.slN, h.suN _ (Nat.le_refl _), List.take_length]
/-- the slot that one more takes -/
def nextL (L : SL) : Nat := L.findIdx (·.isNone)
theorem nextL_le (L : SL) : nextL L ≤ L.length := List.findIdx_le_length
theorem nextL_full {j : Nat} (h : j < nextL L) : ∃ x, L[j]? = some (some x) := by
  have hl : j < L.length := Nat.lt_of_lt_of_le h (nextL_le L)
  have := List.not_of_lt_findIdx h
  cases hx : L[j] with
  | none => simp [hx] at this
  | some x => exact ⟨x, by rw [List.getElem?_eq_getElem hl, hx]⟩
theorem nextL_free (h : nextL L < L.length) : L[nextL L]? = some none := by
  have := List.findIdx_getElem (w := h)
  rw [List.getElem?_eq_getElem h]
  cases hx : L[nextL L] with
  | none => rfl
  | some x => unfold nextL at hx; simp [hx] at this
theorem Has.next (h : Has X L st) : IsNext X (nextL L) := by
  refine ⟨by rw [h.slN]; exact nextL_le L, fun j hj => ?_, fun hq => ?_⟩
  · obtain ⟨⟨v, f⟩, hx⟩ := nextL_full hj
    rw [h.szS hx]
    simp [osz, Ver.sz]
  · rw [h.slN] at hq
    rw [h.szS (nextL_free hq)]
    rfl
/-- how much one more may have -/
def roomL (L : SL) : Int := max (478 - 4 * (max L.length (nextL L + 1) : Nat) - (tot L : Nat)) (-1)
theorem Has.room (h : Has X L st) : roomN X (nextL L) = roomL L := by unfold roomN roomL; rw [h.su, h.slN]
theorem Has.pkOk (h : Has X L st) (hs : st < 512) : PkOk X :=
  ⟨h.len, h.fine, by rw [h.slN, ← h.slN, h.su, h.slN]; have := h.top; have := h.sum; omega, by rw [h.bgN]; exact hs, by rw [h.slN, h.bgN]; exact h.top⟩
end
end Go.Proofs.Ytbpgjpopmohbmaa.Mem
