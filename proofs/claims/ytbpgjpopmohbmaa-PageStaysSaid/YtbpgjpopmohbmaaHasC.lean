/- What Stamp and Free make of a page, as slots and versions. -/
import Derived.Test.YtbpgjpopmohbmaaHasB
namespace Go.Proofs.Ytbpgjpopmohbmaa.Mem
open Go.RowKit Go.Proofs.Ytbpgjpopmohbmaa.Nums
set_option linter.unusedVariables false
set_option linter.unusedSimpArgs false
set_option maxRecDepth 100000
theorem stamp_sub {X : List UInt8} {f U P1 S1 c m : Nat} (h : f + 30 ≤ X.length) (hc : c + m ≤ f + 16 ∨ f + 30 ≤ c) : sub (stampL X f U P1 S1) c m = sub X c m := by
  unfold stampL
  have e1 := lay_len (X := X) (b := nb U 8) (a := f + 16) (by rw [nb_len]; omega)
  have e2 := lay_len (X := lay X (f + 16) (nb U 8)) (b := nb P1 4) (a := f + 24) (by rw [nb_len, e1]; omega)
  rw [sub_other (by rw [nb_len, e2, e1]; omega) (by rw [nb_len]; omega), sub_other (by rw [nb_len, e1]; omega) (by rw [nb_len]; omega), sub_other (by rw [nb_len]; omega) (by rw [nb_len]; omega)]
theorem split_of {X b : List UInt8} {f m : Nat} (h : sub X f m = b) (hm : f + m ≤ X.length) : X = X.take f ++ (b ++ X.drop (f + m)) ∧ (X.take f).length = f := by
  refine ⟨?_, by rw [List.length_take]; omega⟩
  subst h
  unfold sub
  rw [← List.drop_drop, List.take_append_drop, List.take_append_drop]
/-- a version with another end and another one behind it -/
def Ver.stamped (v : Ver) (U P1 S1 : Nat) : Ver := ⟨v.r, v.a, U, P1, S1, v.d⟩
theorem stamp_ver {X : List UInt8} {f U P1 S1 : Nat} {v : Ver} (h : sub X f v.sz = v.bytes) (hm : f + v.sz ≤ X.length) : sub (stampL X f U P1 S1) f v.sz = (v.stamped U P1 S1).bytes := by
  obtain ⟨e, hp⟩ := split_of h hm
  have hl : (v.stamped U P1 S1).bytes.length = v.sz := Ver.len _
  obtain ⟨pre, hpre⟩ : ∃ pre, X.take f = pre := ⟨_, rfl⟩
  obtain ⟨post, hpost⟩ : ∃ post, X.drop (f + v.sz) = post := ⟨_, rfl⟩
  rw [hpre, hpost] at e
  rw [hpre] at hp
  have e2 := stampL_mid pre post v.d v.r v.a v.b v.p v.s U P1 S1 f hp
  rw [e]
  unfold Ver.bytes
  rw [e2]
  unfold sub
  rw [List.drop_append_of_le_length (by omega), List.drop_of_length_le (by omega), List.nil_append, List.take_append_of_le_length (by unfold Ver.bytes Ver.stamped at hl; rw [hl]; omega), List.take_of_length_le (by unfold Ver.bytes Ver.stamped at hl; rw [hl]; omega)]
  rfl
section
variable {X : List UInt8} {L : SL} {st : Nat}
theorem Has.stamp (h : Has X L st) {s : Nat} {v : Ver} {f U P1 S1 : Nat} (hs : L[s]? = some (some (v, f))) (hok : (v.stamped U P1 S1).ok) : Has (stampL X f U P1 S1) (L.set s (some (v.stamped U P1 S1, f))) st := by
  obtain ⟨hvb, hf1, hf2⟩ := h.ver s v f hs
  have hl := h.le hs
  have htop := h.top
  have hlen := h.len
  have hsz : (v.stamped U P1 S1).sz = v.sz := rfl
  have h30 : 30 ≤ v.sz := by unfold Ver.sz; omega
  have hget : ∀ j, (L.set s (some (v.stamped U P1 S1, f)))[j]? = if j = s then some (some (v.stamped U P1 S1, f)) else L[j]? := fun j => by
    rw [List.getElem?_set]
    by_cases hj : s = j
    · subst hj; rw [if_pos rfl, if_pos rfl, if_pos hl]
    · rw [if_neg hj, if_neg (Ne.symm hj)]
  refine ⟨by rw [stampL_len (by omega), hlen], ?_, ?_, by rw [List.length_set]; exact htop, h.all, ?_, ?_, ?_, ?_, ?_, ?_⟩
  · rw [stamp_sub (by omega) (by omega), List.length_set]; exact h.sl
  · rw [stamp_sub (by omega) (by omega)]; exact h.bg
  · have := tot_set L s (some (v.stamped U P1 S1, f)) _ hs
    have := h.sum
    simp only [osz, hsz] at *
    omega
  · intro j o ho
    rw [hget] at ho
    have hj : j < L.length := by
      split at ho
      · omega
      · exact h.le ho
    rw [stamp_sub (by omega) (by omega)]
    split at ho
    · rename_i he
      subst he
      injection ho with ho
      subst ho
      show sub X (4 + 4 * j) 4 = slotB (some (v, f))
      exact h.slot j _ hs
    · exact h.slot j o ho
  · intro j u g hu
    rw [hget] at hu
    split at hu
    · injection hu with hu; injection hu with hu; injection hu with h1 h2
      subst h1 h2
      rw [hsz]
      exact ⟨stamp_ver hvb (by omega), hf1, hf2⟩
    · rename_i he
      have hap := h.apart s j v f u g hs hu (Ne.symm he)
      obtain ⟨h1, h2, h3⟩ := h.ver j u g hu
      rw [stamp_sub (by omega) (by omega)]
      exact ⟨h1, h2, h3⟩
  · intro j j' u g u' g' hu hu' hne
    rw [hget] at hu hu'
    split at hu
    · rename_i he
      subst he
      rw [if_neg (Ne.symm hne)] at hu'
      injection hu with hu; injection hu with hu; injection hu with h1 h2
      subst h1 h2
      exact h.apart j j' v f u' g' hs hu' hne
    · split at hu'
      · rename_i he
        subst he
        injection hu' with hu'; injection hu' with hu'; injection hu' with h1 h2
        subst h1 h2
        exact h.apart j j' u g v f hu hs hne
      · exact h.apart j j' u g u' g' hu hu' hne
  · intro i h1 h2 h3
    rw [List.length_set] at h1
    have hself := h3 s _ f (by rw [hget, if_pos rfl])
    rw [hsz] at hself
    rw [one_of (stamp_sub (X := X) (f := f) (U := U) (P1 := P1) (S1 := S1) (c := i) (m := 1) (by omega) (by omega))]
    refine h.rest i h1 h2 fun j u g hu => ?_
    by_cases he : j = s
    · subst he
      rw [hs] at hu
      injection hu with hu; injection hu with hu; injection hu with h4 h5
      subst h4 h5
      exact hself
    · exact h3 j u g (by rw [hget, if_neg he]; exact hu)
  · intro j u g hu
    rw [hget] at hu
    split at hu
    · injection hu with hu; injection hu with hu; injection hu with h1 h2
      subst h1
      exact hok
    · exact h.okv j u g hu
/-- so many slots are left, when free ones at the end are no slots any more -/
structure IsTrim (M : SL) (k : Nat) : Prop where
  le : k ≤ M.length
  free : ∀ j, k ≤ j → j < M.length → M[j]? = some none
  last : 0 < k → ∃ x, M[k - 1]? = some (some x)
theorem IsTrim.eq {M : SL} {a b : Nat} (h : IsTrim M a) (k : IsTrim M b) : a = b := by
  rcases Nat.lt_trichotomy a b with hl | he | hl
  · obtain ⟨x, hx⟩ := k.last (by omega)
    rw [h.free (b - 1) (by omega) (by have := k.le; omega)] at hx
    cases hx
  · exact he
  · obtain ⟨x, hx⟩ := h.last (by omega)
    rw [k.free (a - 1) (by omega) (by have := h.le; omega)] at hx
    cases hx
theorem tot_take_le' (L : SL) (k : Nat) : tot (L.take k) ≤ tot L := tot_take_le L k
theorem free_sub {f z s c m : Nat} (hX : X.length = 512) (h1 : f + z ≤ 512) (h2 : 8 + 4 * s ≤ 512) (hc : c + m ≤ f ∨ f + z ≤ c) (hs : c + m ≤ 4 + 4 * s ∨ 8 + 4 * s ≤ c) : sub (freeL X s f z) c m = sub X c m := by
  unfold freeL
  have e1 := lay_len (X := X) (b := List.replicate z 0) (a := f) (by rw [List.length_replicate]; omega)
  rw [sub_other (by rw [List.length_replicate, e1]; omega) (by rw [List.length_replicate]; omega), sub_other (by rw [List.length_replicate]; omega) (by rw [List.length_replicate]; omega)]
theorem free_slot {f z s : Nat} (hX : X.length = 512) (h1 : f + z ≤ 512) (h2 : 8 + 4 * s ≤ 512) : sub (freeL X s f z) (4 + 4 * s) 4 = List.replicate 4 0 := by
  unfold freeL
  have e1 := lay_len (X := X) (b := List.replicate z 0) (a := f) (by rw [List.length_replicate]; omega)
  have := sub_same (X := lay X f (List.replicate z 0)) (b := List.replicate 4 0) (a := 4 + 4 * s) (by rw [List.length_replicate, e1]; omega)
  rwa [List.length_replicate] at this
theorem free_hole {f z s i : Nat} (hX : X.length = 512) (h1 : f + z ≤ 512) (h2 : 8 + 4 * s ≤ f) (hi : f ≤ i) (hi2 : i < f + z) : (freeL X s f z)[i]? = some 0 := by
  unfold freeL
  have e1 := lay_len (X := X) (b := List.replicate z 0) (a := f) (by rw [List.length_replicate]; omega)
  rw [lay_other (by rw [List.length_replicate, e1]; omega) (by rw [List.length_replicate]; omega)]
  have := lay_get (X := X) (b := List.replicate z 0) (a := f) (by rw [List.length_replicate]; omega) (j := i - f) (by rw [List.length_replicate]; omega)
  rw [show f + (i - f) = i by omega] at this
  rw [this, List.getElem?_replicate, if_pos (by omega)]
theorem set_get {L : SL} {s : Nat} (hl : s < L.length) (x : Option (Ver × Nat)) (j : Nat) : (L.set s x)[j]? = if j = s then some x else L[j]? := by
  rw [List.getElem?_set]
  by_cases hj : s = j
  · subst hj; rw [if_pos rfl, if_pos rfl, if_pos hl]
  · rw [if_neg hj, if_neg (Ne.symm hj)]
/-- the slots' bytes behind the two clears -/
theorem Has.freed (h : Has X L st) {s : Nat} {v : Ver} {f : Nat} (hs : L[s]? = some (some (v, f))) {j : Nat} {o : Option (Ver × Nat)} (ho : (L.set s none)[j]? = some o) : sub (freeL X s f v.sz) (4 + 4 * j) 4 = slotB o := by
  obtain ⟨hvb, hf1, hf2⟩ := h.ver s v f hs
  have hl := h.le hs
  have htop := h.top
  rw [set_get hl] at ho
  split at ho
  · rename_i he
    subst he
    injection ho with ho
    subst ho
    exact free_slot h.len hf2 (by omega)
  · have hj := h.le ho
    rw [free_sub h.len hf2 (by omega) (by omega) (by omega)]
    exact h.slot j o ho
theorem Has.freed_sz (h : Has X L st) {s : Nat} {v : Ver} {f : Nat} (hs : L[s]? = some (some (v, f))) {j : Nat} {o : Option (Ver × Nat)} (ho : (L.set s none)[j]? = some o) : Mem.szS (freeL X s f v.sz) j = osz o := by
  show leN (sub (freeL X s f v.sz) (6 + 4 * j) 2) = _
  have e := h.freed hs ho
  cases o with
  | none =>
    have e2 := sub_snd (X := freeL X s f v.sz) (a := 4 + 4 * j) (m := 2) (n := 2) (b := List.replicate 2 0) (c := List.replicate 2 0) (by rw [e]; rfl) rfl rfl
    rw [show 4 + 4 * j + 2 = 6 + 4 * j by omega] at e2
    rw [e2]
    rfl
  | some x =>
    obtain ⟨u, g⟩ := x
    have e2 := sub_snd (X := freeL X s f v.sz) (a := 4 + 4 * j) (m := 2) (n := 2) (b := nb g 2) (c := nb u.sz 2) e (nb_len _ _) (nb_len _ _)
    rw [show 4 + 4 * j + 2 = 6 + 4 * j by omega] at e2
    rw [set_get (h.le hs)] at ho
    split at ho
    · cases ho
    · have := (h.ver j u g ho).2
      rw [e2, leN_nb2 (by omega)]
      rfl
theorem Has.free (h : Has X L st) {s : Nat} {v : Ver} {f k : Nat} (hs : L[s]? = some (some (v, f))) (hk : IsTrim (L.set s none) k) : Has (lay (freeL X s f v.sz) 0 (nb k 2)) ((L.set s none).take k) st := by
  obtain ⟨hvb, hf1, hf2⟩ := h.ver s v f hs
  have hl := h.le hs
  have htop := h.top
  have hlen := h.len
  have hkl := hk.le
  rw [List.length_set] at hkl
  have hY : (freeL X s f v.sz).length = 512 := freeL_len hlen hf2 (by omega)
  have hT : ((L.set s none).take k).length = k := by rw [List.length_take, List.length_set]; omega
  have sY : ∀ {c m : Nat}, 2 ≤ c → sub (lay (freeL X s f v.sz) 0 (nb k 2)) c m = sub (freeL X s f v.sz) c m := fun hc => sub_other (by rw [nb_len, hY]; omega) (by rw [nb_len]; omega)
  have hg : ∀ {j : Nat} {o : Option (Ver × Nat)}, ((L.set s none).take k)[j]? = some o → (L.set s none)[j]? = some o ∧ j < k := fun {j o} ho => by
    rw [List.getElem?_take] at ho
    split at ho
    · exact ⟨ho, by assumption⟩
    · cases ho
  have hgv : ∀ {j : Nat} {u : Ver} {g : Nat}, ((L.set s none).take k)[j]? = some (some (u, g)) → L[j]? = some (some (u, g)) ∧ j ≠ s := fun {j u g} ho => by
    have := (hg ho).1
    rw [set_get hl] at this
    split at this
    · cases this
    · exact ⟨this, by assumption⟩
  refine ⟨by rw [lay_len (by rw [nb_len, hY]; omega), hY], ?_, ?_, by rw [hT]; omega, h.all, ?_, ?_, ?_, ?_, ?_, ?_⟩
  · rw [hT]
    have := sub_same (X := freeL X s f v.sz) (b := nb k 2) (a := 0) (by rw [nb_len, hY]; omega)
    rwa [nb_len] at this
  · rw [sY (by omega), free_sub hlen hf2 (by omega) (by omega) (by omega)]
    exact h.bg
  · have h1 := tot_set L s none _ hs
    have h2 := tot_take_le (L.set s none) k
    have h3 := h.sum
    simp only [osz] at h1
    omega
  · intro j o ho
    rw [sY (by omega)]
    exact h.freed hs (hg ho).1
  · intro j u g hu
    obtain ⟨h1, h2⟩ := hgv hu
    obtain ⟨h3, h4, h5⟩ := h.ver j u g h1
    have := h.apart s j v f u g hs h1 (Ne.symm h2)
    rw [sY (by omega), free_sub hlen hf2 (by omega) (by omega) (by omega)]
    exact ⟨h3, h4, h5⟩
  · intro j j' u g u' g' hu hu' hne
    exact h.apart j j' u g u' g' (hgv hu).1 (hgv hu').1 hne
  · intro i h1 h2 h3
    rw [hT] at h1
    rw [one_of (sY (c := i) (m := 1) (by omega))]
    by_cases ha : f ≤ i ∧ i < f + v.sz
    · exact free_hole hlen hf2 (by omega) ha.1 ha.2
    · by_cases hb : i < 4 + 4 * L.length
      · obtain ⟨o, ho⟩ : ∃ o, (L.set s none)[(i - 4) / 4]? = some o := ⟨_, List.getElem?_eq_getElem (by rw [List.length_set]; omega)⟩
        have hfr := hk.free ((i - 4) / 4) (by omega) (by rw [List.length_set]; omega)
        rw [ho] at hfr
        injection hfr with hfr
        subst hfr
        have e := get_of_sub (h.freed hs ho) (j := (i - 4) % 4) (by omega)
        rw [show 4 + 4 * ((i - 4) / 4) + (i - 4) % 4 = i by omega] at e
        rw [e]
        show (List.replicate 4 (0 : UInt8))[(i - 4) % 4]? = some 0
        rw [List.getElem?_replicate, if_pos (by omega)]
      · rw [one_of (free_sub (X := X) (f := f) (z := v.sz) (s := s) (c := i) (m := 1) hlen hf2 (by omega) (by omega) (by omega))]
        refine h.rest i (by omega) h2 fun j u g hu => ?_
        by_cases he : j = s
        · subst he
          rw [hs] at hu
          injection hu with hu; injection hu with hu; injection hu with h4 h5
          subst h4 h5
          omega
        · refine h3 j u g ?_
          have hs2 : (L.set s none)[j]? = some (some (u, g)) := by rw [set_get hl, if_neg he]; exact hu
          rw [List.getElem?_take, if_pos]
          · exact hs2
          · apply Classical.byContradiction
            intro hn
            rw [hk.free j (by omega) (by rw [List.length_set]; exact h.le hu)] at hs2
            cases hs2
  · intro j u g hu
    exact h.okv j u g (hgv hu).1
end
end Go.Proofs.Ytbpgjpopmohbmaa.Mem
