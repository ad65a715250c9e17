/- Pages all of whose versions are one and the same: filled, with a hole, filled again. -/
import Derived.Test.YtbpgjpopmohbmaaHasE
namespace Go.Proofs.Ytbpgjpopmohbmaa.Mem
open Go.RowKit Go.Proofs.Ytbpgjpopmohbmaa.Nums
set_option linter.unusedVariables false
set_option linter.unusedSimpArgs false
set_option maxRecDepth 100000
/-- n slots, each with this version -/
structure Row (v : Ver) (n : Nat) (L : SL) : Prop where
  len : L.length = n
  all : ∀ j, j < n → ∃ f, L[j]? = some (some (v, f))
/-- .. but slot j is free -/
structure Hole (v : Ver) (n j : Nat) (L : SL) : Prop where
  lt : j < n
  next : nextL L = j
  len : max L.length (j + 1) = n
  tot : tot L + v.sz = n * v.sz
  all : ∀ i, i < n → i ≠ j → ∃ f, L[i]? = some (some (v, f))
section
variable {v : Ver} {n j : Nat} {L : SL}
theorem tot_same {z : Nat} : ∀ {L : SL}, (∀ o ∈ L, osz o = z) → tot L = L.length * z
  | [], _ => by simp [Mem.tot]
  | o :: l, h => by
    have := tot_same (L := l) (z := z) fun x hx => h x (List.mem_cons_of_mem _ hx)
    have h0 := h o (List.mem_cons_self ..)
    simp [Mem.tot] at this ⊢
    rw [this, h0, Nat.add_mul]
    omega
theorem Row.next (h : Row v n L) : nextL L = n :=
  nextL_eq (fun j hj => by obtain ⟨f, hf⟩ := h.all j hj; exact ⟨_, hf⟩) (by rw [h.len]; exact Nat.le_refl _) (fun hn => by rw [h.len] at hn; omega)
theorem Row.tot (h : Row v n L) : Mem.tot L = n * v.sz := by
  rw [tot_same (z := v.sz), h.len]
  intro o ho
  obtain ⟨i, hi, rfl⟩ := List.getElem_of_mem ho
  obtain ⟨f, hf⟩ := h.all i (by rw [← h.len]; exact hi)
  rw [List.getElem?_eq_getElem hi] at hf
  injection hf with hf
  rw [hf]
  rfl
theorem Row.room (h : Row v n L) : roomL L = max (478 - 4 * ((n + 1 : Nat) : Int) - (n * v.sz : Nat)) (-1) := by
  unfold roomL
  rw [h.next, h.len, h.tot, Nat.max_eq_right (by omega)]
theorem Row.nil : Row v 0 [] := ⟨rfl, fun j hj => absurd hj (by omega)⟩
theorem insS_len (L : SL) (st : Nat) (v : Ver) : (insS L st v).1.length = max L.length (nextL L + 1) := by
  unfold insS
  split
  · show (putL _ _ _).length = _
    rw [putL_len (by rw [packL_len]; exact nextL_le L), packL_len]
  · show (putL _ _ _).length = _
    rw [putL_len (nextL_le L)]
theorem insS_new (L : SL) (st : Nat) (v : Ver) : ∃ f, (insS L st v).1[nextL L]? = some (some (v, f)) := by
  unfold insS
  split
  · exact ⟨_, by show (putL _ _ _)[_]? = _; rw [putL_get (by rw [packL_len]; exact nextL_le L), if_pos rfl]⟩
  · exact ⟨_, by show (putL _ _ _)[_]? = _; rw [putL_get (nextL_le L), if_pos rfl]⟩
theorem insS_old {L : SL} (st : Nat) (v : Ver) {i : Nat} (hi : i ≠ nextL L) {u : Ver} {f : Nat} (h : L[i]? = some (some (u, f))) : ∃ f, (insS L st v).1[i]? = some (some (u, f)) := by
  unfold insS
  split
  · exact ⟨_, by show (putL _ _ _)[_]? = _; rw [putL_get (by rw [packL_len]; exact nextL_le L), if_neg hi, packL_some h]⟩
  · exact ⟨_, by show (putL _ _ _)[_]? = _; rw [putL_get (nextL_le L), if_neg hi, h]⟩
theorem Row.ins (h : Row v n L) (st : Nat) : Row v (n + 1) (insS L st v).1 := by
  have hx := h.next
  refine ⟨by rw [insS_len, hx, h.len]; omega, fun j hj => ?_⟩
  by_cases he : j = n
  · subst he
    have := insS_new L st v
    rwa [hx] at this
  · obtain ⟨f, hf⟩ := h.all j (by omega)
    exact insS_old st v (by rw [hx]; exact he) hf
theorem Hole.ins (h : Hole v n j L) (st : Nat) : Row v n (insS L st v).1 := by
  have hx := h.next
  refine ⟨by rw [insS_len, hx, h.len], fun i hi => ?_⟩
  by_cases he : i = j
  · subst he
    have := insS_new L st v
    rwa [hx] at this
  · obtain ⟨f, hf⟩ := h.all i hi he
    exact insS_old st v (by rw [hx]; exact he) hf
theorem Hole.room (h : Hole v n j L) : roomL L = max (478 - 4 * (n : Int) - (n * v.sz - v.sz : Nat)) (-1) := by
  unfold roomL
  have := h.tot
  rw [h.next, h.len, show Mem.tot L = n * v.sz - v.sz by omega]
theorem IsTrim.tot {M : SL} {k : Nat} (h : IsTrim M k) : Mem.tot (M.take k) = Mem.tot M := by
  have e : Mem.tot (M.take k) + Mem.tot (M.drop k) = Mem.tot M := by
    unfold Mem.tot
    rw [← List.sum_append, ← List.map_append, List.take_append_drop]
  have e2 : Mem.tot (M.drop k) = (M.drop k).length * 0 := tot_same fun o ho => by
    obtain ⟨i, hi, rfl⟩ := List.getElem_of_mem ho
    rw [List.length_drop] at hi
    have := h.free (k + i) (by omega) (by omega)
    rw [List.getElem?_eq_getElem (by omega)] at this
    injection this with this
    rw [List.getElem_drop, this]
    rfl
  omega
theorem Row.hole (h : Row v n L) (hj : j < n) {k : Nat} (hk : IsTrim (L.set j none) k) : Hole v n j ((L.set j none).take k) := by
  have hl : j < L.length := by rw [h.len]; exact hj
  have hkl := hk.le
  rw [List.length_set, h.len] at hkl
  have hget := set_get hl none
  have hsome : ∀ i, i < n → i ≠ j → ∃ f, (L.set j none)[i]? = some (some (v, f)) := fun i hi hne => by
    obtain ⟨f, hf⟩ := h.all i hi
    exact ⟨f, by rw [hget, if_neg hne]; exact hf⟩
  have hlow : ∀ i, i < n → i ≠ j → i < k := fun i hi hne => by
    apply Classical.byContradiction
    intro hc
    obtain ⟨f, hf⟩ := hsome i hi hne
    rw [hk.free i (by omega) (by rw [List.length_set, h.len]; exact hi)] at hf
    cases hf
  have htk : ∀ i, i < k → ((L.set j none).take k)[i]? = (L.set j none)[i]? := fun i hi => by rw [List.getElem?_take, if_pos hi]
  have hlen : ((L.set j none).take k).length = k := by rw [List.length_take, List.length_set, h.len]; omega
  have hjk : j ≤ k := by
    rcases Nat.eq_zero_or_pos j with h0 | h0
    · omega
    · have := hlow (j - 1) (by omega) (by omega); omega
  refine ⟨hj, ?_, ?_, ?_, ?_⟩
  · refine nextL_eq (fun i hi => ?_) (by rw [hlen]; exact hjk) (fun hlt => ?_)
    · obtain ⟨f, hf⟩ := hsome i (by omega) (by omega)
      exact ⟨_, by rw [htk i (by omega)]; exact hf⟩
    · rw [hlen] at hlt
      rw [htk j hlt, hget, if_pos rfl]
  · rw [hlen]
    by_cases he : j + 1 = n
    · omega
    · have := hlow (n - 1) (by omega) (by omega)
      omega
  · rw [hk.tot]
    obtain ⟨f, hf⟩ := h.all j hj
    have := tot_set L j none _ hf
    have e := h.tot
    simp only [osz] at this
    omega
  · intro i hi hne
    obtain ⟨f, hf⟩ := hsome i hi hne
    exact ⟨f, by rw [htk i (hlow i hi hne)]; exact hf⟩
theorem Row.used (h : Row v n L) : usedL L = n := by
  unfold usedL
  rw [List.filter_eq_self.2, h.len]
  intro o ho
  obtain ⟨i, hi, rfl⟩ := List.getElem_of_mem ho
  obtain ⟨f, hf⟩ := h.all i (by rw [← h.len]; exact hi)
  rw [List.getElem?_eq_getElem hi] at hf
  injection hf with hf
  rw [hf]
  rfl
theorem Row.at_ (h : Row v n L) {j : Nat} (hj : j < n) : ∃ f, atL L (j : Int) = some (v, f) := by
  obtain ⟨f, hf⟩ := h.all j hj
  refine ⟨f, ?_⟩
  unfold atL
  rw [if_neg (by omega), show ((j : Nat) : Int).toNat = j by omega, hf]
  rfl
end
/-- the page of n such versions -/
def Rp (w : World) (P : Nat) (v : Ver) (n : Nat) : Prop := ∃ L st, Hp w P L st ∧ Row v n L
def Ho (w : World) (P : Nat) (v : Ver) (n j : Nat) : Prop := ∃ L st, Hp w P L st ∧ Hole v n j L
section
variable {w w' : World} {P n j c : Nat} {v : Ver} {A : Option Addr}
theorem Rp.lt (h : Rp w P v n) : P < w.heap.size := by obtain ⟨L, st, h, _⟩ := h; exact h.lt
theorem Ho.lt (h : Ho w P v n j) : P < w.heap.size := by obtain ⟨L, st, h, _⟩ := h; exact h.lt
theorem Rp.keep (h : Rp w P v n) (hk : w'.heap[P]? = w.heap[P]?) : Rp w' P v n := by obtain ⟨L, st, h, r⟩ := h; exact ⟨L, st, h.keep hk, r⟩
theorem Ho.keep (h : Ho w P v n j) (hk : w'.heap[P]? = w.heap[P]?) : Ho w' P v n j := by obtain ⟨L, st, h, r⟩ := h; exact ⟨L, st, h.keep hk, r⟩
theorem rp_new (v : Ver) (w : World) : Calls Try.prog 15 #[] w fun e w' => e = .returned (.pointer (some ⟨w.heap.size, 0, none⟩)) ∧ Rp w' w.heap.size v 0 ∧ Below w.heap.size w w' :=
  (new_has w).mono fun e w' ⟨h1, h2, h3⟩ => ⟨h1, ⟨_, _, h2, Row.nil⟩, h3⟩
theorem rp_insert (h : Rp w P v n) (hv : v.ok) (hs : Sl w w.heap.size 1 A v.d.length c (u8s v.d)) (hfit : (n + 1) * (v.sz + 4) ≤ 508) :
    Calls Try.prog 34 #[.pointer (some ⟨P, 0, none⟩), tupV v (.slice A v.d.length c)] w fun e w' => e = .returned (.tuple #[.int .i64 n, .int .i64 0]) ∧ Rp w' P v (n + 1) ∧ Only P w w' := by
  obtain ⟨L, st, h, r⟩ := h
  have hz : v.sz = 30 + v.d.length := rfl
  have e : (n + 1) * (v.sz + 4) = n * v.sz + v.sz + 4 * n + 4 := by rw [Nat.add_mul, Nat.mul_add]; omega
  refine (insert_has P _ c A v L st w h hv rfl hs (by rw [r.room]; omega)).mono ?_
  rintro e w' ⟨rfl, h2, h3⟩
  rw [r.next]
  exact ⟨rfl, ⟨_, _, h2, r.ins st⟩, h3⟩
theorem rp_full (h : Rp w P v n) (hv : v.ok) (hs : Sl w w.heap.size 1 A v.d.length c (u8s v.d)) (hfit : 508 < (n + 1) * (v.sz + 4)) :
    Calls Try.prog 34 #[.pointer (some ⟨P, 0, none⟩), tupV v (.slice A v.d.length c)] w fun e w' => e = .returned (.tuple #[.int .i64 0, .int .i64 12]) ∧ Below w.heap.size w w' := by
  obtain ⟨L, st, h, r⟩ := h
  have hz : v.sz = 30 + v.d.length := rfl
  have e : (n + 1) * (v.sz + 4) = n * v.sz + v.sz + 4 * n + 4 := by rw [Nat.add_mul, Nat.mul_add]; omega
  exact insert_has_full P _ c A v L st w h hv rfl hs (by rw [r.room]; omega)
theorem rp_free (h : Rp w P v n) (hj : j < n) :
    Calls Try.prog 35 #[.pointer (some ⟨P, 0, none⟩), .int .i64 j] w fun e w' => e = .returned (.int .i64 0) ∧ Ho w' P v n j ∧ Only P w w' := by
  obtain ⟨L, st, h, r⟩ := h
  obtain ⟨f, hf⟩ := r.at_ hj
  refine (free_has P L st j v f w h hf).mono ?_
  rintro e w' ⟨rfl, k, hk, hp, ho⟩
  exact ⟨rfl, ⟨_, _, hp, r.hole hj hk⟩, ho⟩
theorem ho_insert (h : Ho w P v n j) (hv : v.ok) (hs : Sl w w.heap.size 1 A v.d.length c (u8s v.d)) (hfit : n * (v.sz + 4) ≤ 508) :
    Calls Try.prog 34 #[.pointer (some ⟨P, 0, none⟩), tupV v (.slice A v.d.length c)] w fun e w' => e = .returned (.tuple #[.int .i64 j, .int .i64 0]) ∧ Rp w' P v n ∧ Only P w w' := by
  obtain ⟨L, st, h, r⟩ := h
  have hz : v.sz = 30 + v.d.length := rfl
  have e : n * (v.sz + 4) = n * v.sz + 4 * n := by rw [Nat.mul_add]; omega
  have hlt := r.lt
  have ht := r.tot
  refine (insert_has P _ c A v L st w h hv rfl hs (by rw [r.room]; omega)).mono ?_
  rintro e w' ⟨rfl, h2, h3⟩
  rw [r.next]
  exact ⟨rfl, ⟨_, _, h2, r.ins st⟩, h3⟩
theorem rp_used (h : Rp w P v n) : Calls Try.prog 23 #[.pointer (some ⟨P, 0, none⟩)] w fun e w' => e = .returned (.int .i64 n) ∧ ∃ m, w' = w.drewN m := by
  obtain ⟨L, st, h, r⟩ := h
  have := used_has P L st w h
  rwa [r.used] at this
end
end Go.Proofs.Ytbpgjpopmohbmaa.Mem
