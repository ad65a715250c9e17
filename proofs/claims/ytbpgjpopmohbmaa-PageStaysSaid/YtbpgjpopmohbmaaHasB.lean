/- What Insert, pack, Stamp and Free make of a page, as slots and versions. -/
import Derived.Test.YtbpgjpopmohbmaaHasA
import Derived.Test.YtbpgjpopmohbmaaPageZ
namespace Go.Proofs.Ytbpgjpopmohbmaa.Mem
open Go.RowKit Go.Proofs.Ytbpgjpopmohbmaa.Nums
set_option linter.unusedVariables false
set_option linter.unusedSimpArgs false
set_option maxRecDepth 100000
theorem one_of {A B : List UInt8} {i : Nat} (h : sub A i 1 = sub B i 1) : A[i]? = B[i]? := by
  have e : (sub A i 1)[0]? = (sub B i 1)[0]? := by rw [h]
  rwa [sub_get (by omega), sub_get (by omega), Nat.add_zero] at e
/-- a slot filled, or one more -/
def putL (L : SL) (q : Nat) (x : Option (Ver × Nat)) : SL := if q < L.length then L.set q x else L ++ [x]
section
variable {L : SL} {q : Nat} {x : Option (Ver × Nat)}
theorem putL_len (hq : q ≤ L.length) : (putL L q x).length = max L.length (q + 1) := by
  unfold putL
  split
  · rw [List.length_set]; omega
  · rw [List.length_append]; simp; omega
theorem putL_get (hq : q ≤ L.length) (j : Nat) : (putL L q x)[j]? = if j = q then some x else L[j]? := by
  unfold putL
  split
  · rename_i h
    rw [List.getElem?_set]
    by_cases hj : q = j
    · subst hj; rw [if_pos rfl, if_pos rfl, if_pos h]
    · rw [if_neg hj, if_neg (Ne.symm hj)]
  · obtain rfl : q = L.length := by omega
    by_cases hj : j = L.length
    · subst hj; rw [if_pos rfl, List.getElem?_append_right (Nat.le_refl _), Nat.sub_self]; rfl
    · rw [if_neg hj]
      by_cases hl : j < L.length
      · rw [List.getElem?_append_left hl]
      · rw [List.getElem?_append_right (by omega), List.getElem?_eq_none (by simp; omega), List.getElem?_eq_none (by omega)]
theorem tot_set : ∀ (L : SL) (q : Nat) (x y : Option (Ver × Nat)), L[q]? = some y → tot (L.set q x) + osz y = tot L + osz x
  | [], q, x, y, h => by simp at h
  | o :: l, 0, x, y, h => by
    simp at h; subst h
    simp [tot]; omega
  | o :: l, q + 1, x, y, h => by
    have := tot_set l q x y (by simpa using h)
    simp [tot] at this ⊢; omega
theorem putL_tot (hq : q ≤ L.length) (hf : q < L.length → L[q]? = some none) : tot (putL L q x) = tot L + osz x := by
  unfold putL
  split
  · rename_i h
    have := tot_set L q x none (hf h)
    simpa [osz] using this
  · simp [tot]
end
section
variable {X : List UInt8} {L : SL} {st : Nat}
theorem Has.insert (h : Has X L st) {v : Ver} {at_ M : Nat} (hv : v.ok) (hat : at_ + v.sz = st) (hM : max L.length (nextL L + 1) = M) (hfit : 4 + 4 * M ≤ at_) :
    Has (placeL (lay X 0 (nb M 2)) (nextL L) at_ v.bytes) (putL L (nextL L) (some (v, at_))) at_ := by
  have hq := nextL_le L
  have hfree : nextL L < L.length → L[nextL L]? = some none := nextL_free
  generalize nextL L = q at *
  have hall := h.all
  have hvl := v.len
  have hY : (lay X 0 (nb M 2)).length = 512 := by rw [lay_len (by rw [nb_len, h.len]; omega), h.len]
  have sY : ∀ {c m : Nat}, 2 ≤ c → sub (lay X 0 (nb M 2)) c m = sub X c m := fun hc => sub_other (by rw [nb_len, h.len]; omega) (by rw [nb_len]; omega)
  have hL := putL_len (x := some (v, at_)) hq
  have hget := putL_get (x := some (v, at_)) hq
  rw [hM] at hL
  refine ⟨placeL_len hY (by omega) (by omega), ?_, place_bg hY (by omega) (by omega), by rw [hL]; exact hfit, by omega, ?_, ?_, ?_, ?_, ?_, ?_⟩
  · rw [hL, place_sub hY (by omega) (by omega) (by omega) (by omega) (by omega)]
    have := sub_same (X := X) (b := nb M 2) (a := 0) (by rw [nb_len, h.len]; omega)
    rwa [nb_len] at this
  · rw [putL_tot hq hfree]
    have := h.sum
    show at_ + (tot L + v.sz) ≤ 512
    omega
  · intro s o hs
    rw [hget] at hs
    by_cases he : s = q
    · subst he
      rw [if_pos rfl] at hs
      injection hs with hs
      subst hs
      rw [place_slot hY (by omega) (by omega), hvl]
      rfl
    · rw [if_neg he] at hs
      have := h.le hs
      rw [place_sub hY (by omega) (by omega) (by omega) (by omega) (by omega), sY (by omega)]
      exact h.slot s o hs
  · intro s u f hs
    rw [hget] at hs
    by_cases he : s = q
    · subst he
      rw [if_pos rfl] at hs
      injection hs with hs; injection hs with hs; injection hs with h1 h2
      subst h1 h2
      have := place_ver (X := lay X 0 (nb M 2)) (vl := v.bytes) (s := s) (at_ := at_) hY (by omega) (by omega)
      rw [hvl] at this
      exact ⟨this, Nat.le_refl _, by omega⟩
    · rw [if_neg he] at hs
      obtain ⟨h1, h2, h3⟩ := h.ver s u f hs
      rw [place_sub hY (by omega) (by omega) (by omega) (by omega) (by omega), sY (by omega)]
      exact ⟨h1, by omega, h3⟩
  · intro s s' u f u' f' hs hs' hne
    rw [hget] at hs hs'
    by_cases he : s = q
    · subst he
      rw [if_pos rfl] at hs
      rw [if_neg (Ne.symm hne)] at hs'
      injection hs with hs; injection hs with hs; injection hs with h1 h2
      subst h1 h2
      have := h.ver s' u' f' hs'
      omega
    · rw [if_neg he] at hs
      by_cases he' : s' = q
      · subst he'
        rw [if_pos rfl] at hs'
        injection hs' with hs'; injection hs' with hs'; injection hs' with h1 h2
        subst h1 h2
        have := h.ver s u f hs
        omega
      · rw [if_neg he'] at hs'
        exact h.apart s s' u f u' f' hs hs' hne
  · intro i h1 h2 h3
    rw [hL] at h1
    have hself := h3 q v at_ (by rw [hget, if_pos rfl])
    have e : sub (placeL (lay X 0 (nb M 2)) q at_ v.bytes) i 1 = sub X i 1 := by rw [place_sub hY (by omega) (by omega) (by omega) (by omega) (by omega), sY (by omega)]
    rw [one_of e]
    refine h.rest i (by omega) h2 fun s u f hs => ?_
    by_cases he : s = q
    · subst he
      rw [hfree (h.le hs)] at hs
      cases hs
    · exact h3 s u f (by rw [hget, if_neg he]; exact hs)
  · intro s u f hs
    rw [hget] at hs
    by_cases he : s = q
    · subst he
      rw [if_pos rfl] at hs
      injection hs with hs; injection hs with hs; injection hs with h1 h2
      subst h1
      exact hv
    · rw [if_neg he] at hs
      exact h.okv s u f hs
/-- the versions moved to the page's end, the first slot's last -/
def packL (L : SL) : SL := L.mapIdx fun s o => o.map fun x => (x.1, 512 - tot (L.take (s + 1)))
theorem packL_len (L : SL) : (packL L).length = L.length := by simp [packL]
theorem packL_get (L : SL) (s : Nat) : (packL L)[s]? = L[s]?.map fun o => o.map fun x => (x.1, 512 - tot (L.take (s + 1))) := by simp [packL]
theorem packL_none {L : SL} {s : Nat} (h : L[s]? = some none) : (packL L)[s]? = some none := by rw [packL_get, h]; rfl
theorem packL_some {L : SL} {s : Nat} {v : Ver} {f : Nat} (h : L[s]? = some (some (v, f))) : (packL L)[s]? = some (some (v, 512 - tot (L.take (s + 1)))) := by rw [packL_get, h]; rfl
theorem packL_inv {L : SL} {s : Nat} {v : Ver} {g : Nat} (h : (packL L)[s]? = some (some (v, g))) : (∃ f, L[s]? = some (some (v, f))) ∧ g = 512 - tot (L.take (s + 1)) := by
  rw [packL_get] at h
  cases hs : L[s]? with
  | none => rw [hs] at h; cases h
  | some o =>
    rw [hs] at h
    cases o with
    | none => cases h
    | some x =>
      obtain ⟨u, f⟩ := x
      injection h with h; injection h with h; injection h with h1 h2
      subst h1
      exact ⟨⟨f, rfl⟩, h2.symm⟩
theorem osz_packL (L : SL) : (packL L).map osz = L.map osz := by
  apply List.ext_getElem?
  intro s
  rw [List.getElem?_map, List.getElem?_map, packL_get]
  cases hs : L[s]? with
  | none => rfl
  | some o =>
    cases o with
    | none => rfl
    | some x => rfl
theorem tot_packL (L : SL) : tot (packL L) = tot L := by unfold tot; rw [osz_packL]
theorem tot_take_le (L : SL) (k : Nat) : tot (L.take k) ≤ tot L := by
  have e : tot (L.take k) + tot (L.drop k) = tot L := by
    unfold tot
    rw [← List.sum_append, ← List.map_append, List.take_append_drop]
  omega
theorem tot_take_mono (L : SL) {j k : Nat} (h : j ≤ k) : tot (L.take j) ≤ tot (L.take k) := by
  have := tot_take_le (L.take k) j
  rwa [List.take_take, Nat.min_eq_left h] at this
/-- behind k slots' turn -/
structure PkS (X Y : List UInt8) (L : SL) (k : Nat) : Prop where
  slot : ∀ (s : Nat) (o : Option (Ver × Nat)), s < k → (packL L)[s]? = some o → sub Y (4 + 4 * s) 4 = slotB o
  late : ∀ s, k ≤ s → s < L.length → sub Y (4 + 4 * s) 4 = sub X (4 + 4 * s) 4
  ver : ∀ (s : Nat) (v : Ver) (f : Nat), s < k → L[s]? = some (some (v, f)) → sub Y (512 - tot (L.take (s + 1))) v.sz = v.bytes
  rest : ∀ i, 4 + 4 * L.length ≤ i → i < 512 → (∀ (s : Nat) (v : Ver) (f : Nat), s < k → L[s]? = some (some (v, f)) → i < 512 - tot (L.take (s + 1)) ∨ 512 - tot (L.take (s + 1)) + v.sz ≤ i) → Y[i]? = some 0
theorem Has.pkS (h : Has X L st) (hs : st < 512) : ∀ k, k ≤ L.length → PkS X (pk X k) L k
  | 0, _ => by
    have hl0 := pk_len0 (h.pkOk hs)
    have htop := h.top
    have hbg := h.bgN
    rw [hbg] at hl0
    have sY : ∀ {c m : Nat}, 4 ≤ c → sub (pk X 0) c m = sub (lay X st (List.replicate (512 - st) 0)) c m := fun hc => by
      unfold pk
      rw [hbg]
      exact sub_other (by rw [nb_len, hl0]; omega) (by rw [nb_len]; omega)
    refine ⟨fun s o hs => absurd hs (by omega), fun s _ hs => ?_, fun s v f hs => absurd hs (by omega), fun i h1 h2 _ => ?_⟩
    · rw [sY (by omega), sub_other (by rw [List.length_replicate, h.len]; omega) (by omega)]
    · rw [one_of (sY (c := i) (m := 1) (by omega))]
      by_cases hi : i < st
      · rw [lay_other (by rw [List.length_replicate, h.len]; omega) (by omega)]
        exact h.rest i h1 h2 fun s v f hsv => by have := h.ver s v f hsv; omega
      · have := lay_get (X := X) (b := List.replicate (512 - st) 0) (a := st) (by rw [List.length_replicate, h.len]; omega) (j := i - st) (by rw [List.length_replicate]; omega)
        rw [show st + (i - st) = i by omega] at this
        rw [this, List.getElem?_replicate, if_pos (by omega)]
  | k + 1, hk => by
    have ih := h.pkS hs k (by omega)
    have hok := h.pkOk hs
    have hlen := pk_len hok k (by rw [h.slN]; omega)
    have htop := h.top
    have hsum := h.sum
    have htk := tot_take_le L (k + 1)
    obtain ⟨o, ho⟩ : ∃ o, L[k]? = some o := ⟨_, List.getElem?_eq_getElem (by omega)⟩
    have hsz := h.szS ho
    cases o with
    | none =>
      have e : pk X (k + 1) = pk X k := by
        show (if Mem.szS X k = 0 then _ else _) = _
        rw [if_pos (by rw [hsz]; rfl)]
      rw [e]
      refine ⟨fun s o hs hp => ?_, fun s h1 h2 => ih.late s (by omega) h2, fun s v f hs hv => ?_, fun i h1 h2 h3 => ih.rest i h1 h2 fun s v f hs hv => h3 s v f (by omega) hv⟩
      · by_cases he : s = k
        · subst he
          rw [packL_none ho] at hp
          injection hp with hp
          subst hp
          rw [ih.late s (Nat.le_refl _) (by omega)]
          exact h.slot s none ho
        · exact ih.slot s o (by omega) hp
      · by_cases he : s = k
        · subst he
          rw [ho] at hv
          cases hv
        · exact ih.ver s v f (by omega) hv
    | some x =>
      obtain ⟨v, f⟩ := x
      have hsz' : Mem.szS X k = v.sz := hsz
      obtain ⟨hvb, hv1, hv2⟩ := h.ver k v f ho
      have hvz : 30 ≤ v.sz := by unfold Ver.sz; omega
      have htk2 : tot (L.take (k + 1)) = tot (L.take k) + v.sz := tot_take_succ ho
      have e : pk X (k + 1) = placeL (pk X k) k (512 - tot (L.take (k + 1))) v.bytes := by
        show (if Mem.szS X k = 0 then _ else placeL (pk X k) k (512 - Mem.suN X (k + 1)) (sub X (Mem.frS X k) (Mem.szS X k))) = _
        rw [if_neg (by omega), h.suN (k + 1) hk, h.frS ho, hsz', hvb]
      have hvl := v.len
      rw [e]
      obtain ⟨T, hT⟩ : ∃ T, tot (L.take (k + 1)) = T := ⟨_, rfl⟩
      rw [hT] at htk htk2 ⊢
      have late : ∀ {s : Nat}, s < k → tot (L.take (s + 1)) ≤ tot (L.take k) := fun hs => tot_take_mono L (by omega)
      refine ⟨fun s o hs hp => ?_, fun s h1 h2 => ?_, fun s u g hs hv => ?_, fun i h1 h2 h3 => ?_⟩
      · by_cases he : s = k
        · subst he
          rw [packL_some ho, hT] at hp
          injection hp with hp
          subst hp
          rw [place_slot hlen (by omega) (by omega), hvl]
          rfl
        · rw [place_sub hlen (by omega) (by omega) (by omega) (by omega) (by omega)]
          exact ih.slot s o (by omega) hp
      · rw [place_sub hlen (by omega) (by omega) (by omega) (by omega) (by omega)]
        exact ih.late s (by omega) h2
      · by_cases he : s = k
        · subst he
          rw [ho] at hv
          injection hv with hv; injection hv with hv; injection hv with h1 h2
          subst h1
          have := place_ver (X := pk X s) (vl := v.bytes) (s := s) (at_ := 512 - T) hlen (by omega) (by omega)
          rw [hvl] at this
          rw [hT]
          exact this
        · have h1 := late (s := s) (by omega)
          have h2 : tot (L.take (s + 1)) = tot (L.take s) + u.sz := tot_take_succ hv
          rw [place_sub hlen (by omega) (by omega) (by omega) (by omega) (by omega)]
          exact ih.ver s u g (by omega) hv
      · have hself := h3 k v f (by omega) ho
        rw [hT] at hself
        have e1 : sub (placeL (pk X k) k (512 - T) v.bytes) i 1 = sub (pk X k) i 1 := place_sub hlen (by omega) (by omega) (by omega) (by omega) (by omega)
        rw [one_of e1]
        exact ih.rest i h1 h2 fun s u g hs hu => h3 s u g (by omega) hu
theorem Has.pack (h : Has X L st) (hs : st < 512) : Has (pk X (Mem.slN X)) (packL L) (512 - tot L) := by
  have hok := h.pkOk hs
  have htop := h.top
  have hsum := h.sum
  have hS := h.pkS hs L.length (Nat.le_refl _)
  have h1 := pk_len hok _ (Nat.le_refl _)
  have h2 := pk_head hok _ (Nat.le_refl _)
  have h3 := pk_bg hok _ (Nat.le_refl _)
  rw [h.slN] at h1 h2 h3 ⊢
  rw [h.suN _ (Nat.le_refl _), List.take_length] at h3
  have hb : ∀ {s : Nat} {v : Ver} {f : Nat}, L[s]? = some (some (v, f)) → tot (L.take (s + 1)) = tot (L.take s) + v.sz := fun hv => tot_take_succ hv
  refine ⟨h1, by rw [packL_len, h2]; exact h.sl, h3, by rw [packL_len]; omega, by omega, by rw [tot_packL]; omega, ?_, ?_, ?_, ?_, ?_⟩
  · intro s o ho
    refine hS.slot s o ?_ ho
    have := (List.getElem?_eq_some_iff.1 ho).1
    rwa [packL_len] at this
  · intro s v g hv
    obtain ⟨⟨f, hf⟩, rfl⟩ := packL_inv hv
    have := hb hf
    have := tot_take_le L (s + 1)
    exact ⟨hS.ver s v f (h.le hf) hf, by omega, by omega⟩
  · intro s s' v g v' g' hv hv' hne
    obtain ⟨⟨f, hf⟩, rfl⟩ := packL_inv hv
    obtain ⟨⟨f', hf'⟩, rfl⟩ := packL_inv hv'
    have e1 := hb hf
    have e2 := hb hf'
    have l1 := tot_take_le L (s + 1)
    have l2 := tot_take_le L (s' + 1)
    rcases Nat.lt_or_gt_of_ne hne with hl | hl
    · have := tot_take_mono L (show s + 1 ≤ s' from hl)
      omega
    · have := tot_take_mono L (show s' + 1 ≤ s from hl)
      omega
  · intro i h4 h5 h6
    rw [packL_len] at h4
    exact hS.rest i h4 h5 fun s v f hl hv => h6 s v _ (packL_some hv)
  · intro s v g hv
    obtain ⟨⟨f, hf⟩, _⟩ := packL_inv hv
    exact h.okv s v f hf
end
end Go.Proofs.Ytbpgjpopmohbmaa.Mem
