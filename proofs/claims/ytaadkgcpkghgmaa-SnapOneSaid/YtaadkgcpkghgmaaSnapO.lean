/- SnapOne: versions one behind the other, of which one at most is seen; what is kept while they are made. -/
import Derived.Test.YtaadkgcpkghgmaaSnapP
import Derived.Test.YtaadkgcpkghgmaaSnapT
import Derived.Test.YtaadkgcpkghgmaaBoolD
namespace Go.Proofs.Ytaadkgcpkghgmaa.Clg
open Go.ChangeMaps Go.MapKept Go.RowKit Go.Proofs.Ytaadkgcpkghgmaa.Nums Go.Proofs.Ytaadkgcpkghgmaa.Mem
set_option linter.unusedVariables false
set_option linter.unusedSimpArgs false
set_option maxRecDepth 100000
/-- each is ended by the next one's maker, the last one by nobody -/
structure Ch (tl : List (Nat × Nat)) : Prop where
  nz : ∀ (k a b : Nat), tl[k]? = some (a, b) → a ≠ 0 ∧ a < 40 ∧ b < 40
  next : ∀ (k a b : Nat), tl[k]? = some (a, b) → k + 1 < tl.length → b ≠ 0 ∧ ∃ b', tl[k + 1]? = some (b, b')
  last : ∀ (k a b : Nat), tl[k]? = some (a, b) → k + 1 = tl.length → b = 0
theorem ch_nil : Ch [] := ⟨fun _ _ _ h => by simp at h, fun _ _ _ h => by simp at h, fun _ _ _ h => by simp at h⟩
theorem ch_one {x : Nat} (hx : x ≠ 0) (h40 : x < 40) : Ch [(x, 0)] := by
  refine ⟨fun k a b h => ?_, fun k a b h hk => ?_, fun k a b h hk => ?_⟩
  · cases k with
    | zero => simp at h; obtain ⟨rfl, rfl⟩ := h; exact ⟨hx, h40, by omega⟩
    | succ k => simp at h
  · simp at hk
  · cases k with
    | zero => simp at h; exact h.2.symm
    | succ k => simp at h
theorem ch_snoc {t0 : List (Nat × Nat)} {a0 b0 x : Nat} (h : Ch (t0 ++ [(a0, b0)])) (hx : x ≠ 0) (h40 : x < 40) : Ch (t0 ++ [(a0, x)] ++ [(x, 0)]) := by
  obtain ⟨k0, hk0⟩ : ∃ k0, t0.length = k0 := ⟨_, rfl⟩
  have hlen : (t0 ++ [(a0, x)] ++ [(x, 0)]).length = k0 + 2 := by simp [hk0]
  have hlen0 : (t0 ++ [(a0, b0)]).length = k0 + 1 := by simp [hk0]
  have get : ∀ k, (t0 ++ [(a0, x)] ++ [(x, 0)])[k]? = if k < k0 then (t0 ++ [(a0, b0)])[k]? else if k = k0 then some (a0, x) else if k = k0 + 1 then some (x, 0) else none := fun k => by
    rw [List.append_assoc]
    by_cases h1 : k < k0
    · rw [if_pos h1, List.getElem?_append_left (by omega), List.getElem?_append_left (by omega)]
    · rw [if_neg h1, List.getElem?_append_right (by omega), hk0]
      by_cases h2 : k = k0
      · rw [if_pos h2]; subst h2; simp
      · rw [if_neg h2]
        by_cases h3 : k = k0 + 1
        · rw [if_pos h3]; subst h3; simp
        · rw [if_neg h3]
          obtain ⟨j, hj⟩ : ∃ j, k - k0 = j + 2 := ⟨k - k0 - 2, by omega⟩
          rw [hj]; simp
  have ha0 : (t0 ++ [(a0, b0)])[k0]? = some (a0, b0) := by rw [List.getElem?_append_right (by omega), hk0]; simp
  refine ⟨fun k a b hk => ?_, fun k a b hk hl => ?_, fun k a b hk hl => ?_⟩
  · rw [get] at hk
    split at hk
    · exact h.nz k a b hk
    · split at hk
      · injection hk with hk; injection hk with e1 e2; subst e1 e2
        exact ⟨(h.nz _ _ _ ha0).1, (h.nz _ _ _ ha0).2.1, h40⟩
      · split at hk
        · injection hk with hk; injection hk with e1 e2; subst e1 e2
          exact ⟨hx, h40, by omega⟩
        · cases hk
  · rw [hlen] at hl
    rw [get] at hk
    split at hk
    · rename_i h1
      obtain ⟨q1, b', q2⟩ := h.next k a b hk (by omega)
      refine ⟨q1, ?_⟩
      rw [get]
      by_cases h2 : k + 1 < k0
      · rw [if_pos h2]; exact ⟨b', q2⟩
      · rw [if_neg h2, if_pos (by omega)]
        have e : k + 1 = k0 := by omega
        rw [e, ha0] at q2
        injection q2 with q2; injection q2 with e1 e2
        exact ⟨x, by rw [e1]⟩
    · split at hk
      · rename_i h2
        injection hk with hk; injection hk with e1 e2; subst e1 e2
        refine ⟨hx, 0, ?_⟩
        rw [get, if_neg (by omega), if_neg (by omega), if_pos (by omega)]
      · omega
  · rw [hlen] at hl
    rw [get, if_neg (by omega), if_neg (by omega), if_pos (by omega)] at hk
    injection hk with hk; injection hk with e1 e2
    exact e2.symm
/-- how many are seen -/
def Good (bS : Nat → Bool) (tl : List (Nat × Nat)) (k : Nat) (z : Int) : Prop := -100 ≤ z ∧ (z = 0 ∨ z ≤ (k : Int) - 100 ∨ (z = 1 ∧ 0 < k ∧ ((∀ a b, tl[k - 1]? = some (a, b) → bS a = false) ∨ k = tl.length ∨ (∀ a b, tl[k]? = some (a, b) → bS a = false))))
theorem good_zero (bS : Nat → Bool) (tl : List (Nat × Nat)) : Good bS tl 0 0 := ⟨by omega, .inl rfl⟩
theorem Good.bounds {bS : Nat → Bool} {tl : List (Nat × Nat)} {k : Nat} {z : Int} (h : Good bS tl k z) (hk : k ≤ 12) : -100 ≤ z ∧ z ≤ 1 := by
  obtain ⟨h1, h | h | h⟩ := h <;> omega
section
variable {bS : Nat → Bool} {tl : List (Nat × Nat)} {k a nb : Nat} {z : Int}
/-- what is not seen, with no word said -/
theorem Good.no (h : Good bS tl k z) (hk : tl[k]? = some (a, nb)) (hs : bS a = false) : Good bS tl (k + 1) z := by
  refine ⟨h.1, ?_⟩
  have hp : ∀ a' b', tl[k + 1 - 1]? = some (a', b') → bS a' = false := fun a' b' e => by
    rw [Nat.add_sub_cancel, hk] at e; injection e with e; injection e with e1 e2; rw [← e1]; exact hs
  obtain ⟨_, h | h | ⟨h1, h2, h3⟩⟩ := h
  · exact .inl h
  · exact .inr (.inl (by omega))
  · exact .inr (.inr ⟨h1, by omega, .inl hp⟩)
/-- what is seen, the one ahead too: visible or not -/
theorem Good.yes (hc : Ch tl) (h : Good bS tl k z) (hk : tl[k]? = some (a, nb)) (hs : bS a = true) (hp : 0 < k → ∀ a' b', tl[k - 1]? = some (a', b') → bS a' = true) : Good bS tl (k + 1) (if (nb == 0 || !bS nb) = true then z + 1 else z) := by
  have hlt := (List.getElem?_eq_some_iff.1 hk).1
  obtain ⟨h0, h⟩ := h
  have h' : z = 0 ∨ z ≤ (k : Int) - 100 := by
    rcases h with h | h | ⟨h1, h2, h3⟩
    · exact .inl h
    · exact .inr h
    · exfalso
      rcases h3 with h3 | h3 | h3
      · obtain ⟨⟨a', b'⟩, e⟩ : ∃ p, tl[k - 1]? = some p := ⟨_, List.getElem?_eq_getElem (by omega)⟩
        have := hp h2 a' b' e
        rw [h3 a' b' e] at this
        cases this
      · omega
      · rw [h3 a nb hk] at hs; cases hs
  split
  · rename_i hv
    refine ⟨by omega, ?_⟩
    rcases h' with h' | h'
    · refine .inr (.inr ⟨by omega, by omega, .inr ?_⟩)
      by_cases hl : k + 1 = tl.length
      · exact .inl hl
      · refine .inr fun a' b' e => ?_
        obtain ⟨q1, b2, q2⟩ := hc.next k a nb hk (by omega)
        rw [q2] at e; injection e with e; injection e with e1 e2; subst e1
        have : (nb == 0) = false := by rw [beq_eq_false_iff_ne]; exact q1
        rw [this] at hv
        simpa using hv
    · exact .inr (.inl (by omega))
  · refine ⟨h0, ?_⟩
    rcases h' with h' | h'
    · exact .inl h'
    · exact .inr (.inl (by omega))
/-- what is seen, though the one ahead isn't -/
theorem good_reset (v : Bool) : Good bS tl (k + 1) (if v = true then -100 + 1 else -100) := by
  cases v
  · exact ⟨by simp, .inr (.inl (by simp; omega))⟩
  · exact ⟨by simp, .inr (.inl (by simp; omega))⟩
theorem Good.one (h : Good bS tl k z) (hk : k ≤ 12) : z ≤ 1 := (h.bounds hk).2
end
theorem tups_set_last {t0 : List (Nat × Nat)} {a0 b0 x : Nat} {k : Nat} (hk : t0.length = k) : (tups (t0 ++ [(a0, b0)])).set (k * 6 + 2) (.int .u64 (x : Int)) = tups (t0 ++ [(a0, x)]) := by
  rw [tups_app, tups_app, List.set_append_right _ _ (by rw [tups_len, hk]; omega), tups_len, hk, Nat.add_sub_cancel_left]
  rfl
theorem last_of {tl : List (Nat × Nat)} {k : Nat} (h : tl.length = k + 1) : ∃ t0 a0 b0, tl = t0 ++ [(a0, b0)] ∧ t0.length = k := by
  have hne : tl ≠ [] := by intro e; rw [e] at h; simp at h
  refine ⟨tl.dropLast, (tl.getLast hne).1, (tl.getLast hne).2, ?_, by simp [h]⟩
  exact (List.dropLast_concat_getLast hne).symm
/-- what is kept while the versions are made: all above w2 -/
structure S1 (w2 w : World) (M q : Nat) (tl : List (Nat × Nat)) (A : Option Addr) (c : Nat) (D : DataW Unit) : Prop where
  bel : Below w2.heap.size w2 w
  hM : w2.heap.size ≤ M
  map : BoolD w M q D
  own : OwnT w w2.heap.size (.slice A tl.length c) tl.length (tups tl)
  ch : Ch tl
  le : tl.length ≤ q
section
variable {w2 w w' : World} {M q c : Nat} {tl : List (Nat × Nat)} {A : Option Addr} {D : DataW Unit}
theorem S1.below (h : S1 w2 w M q tl A c D) (hb : Below w.heap.size w w') : S1 w2 w' M q tl A c D :=
  ⟨h.bel.trans (hb.mono h.bel.size), h.hM, h.map.keep (hb.block M h.map.lt), own_keep h.own fun g hg => hb.block g (World.ownsRow.lt h.own g hg).2, h.ch, h.le⟩
theorem S1.next (h : S1 w2 w M q tl A c D) : S1 w2 w M (q + 1) tl A c D := ⟨h.bel, h.hM, World.ownsMap.mono h.map (Nat.le_succ q), h.own, h.ch, Nat.le_succ_of_le h.le⟩
theorem S1.mapped (h : S1 w2 w M q tl A c D) {D' : DataW Unit} (hm : BoolD w' M (q + 1) D') (hT : w.mapTurned w' M) : S1 w2 w' M (q + 1) tl A c D' := by
  have hg := hT.grown
  refine ⟨⟨hg.os.trans h.bel.os, hg.tape.trans h.bel.tape, hg.output.trans h.bel.output, Nat.le_trans h.bel.size hg.size, fun k hk => (hg.block k (Nat.lt_of_lt_of_le hk h.bel.size) (fun e => by injection e with e; have := h.hM; omega)).trans (h.bel.block k hk)⟩, h.hM, hm, own_keep h.own fun g hg' => ?_, h.ch, Nat.le_succ_of_le h.le⟩
  exact hg.block g (World.ownsRow.lt h.own g hg').2 (fun e => by injection e with e; exact h.map.notOwn h.own (by rw [hg', e]))
/-- the last one is ended -/
theorem S1.ended {t0 : List (Nat × Nat)} {a0 b0 : Nat} (h : S1 w2 w M q (t0 ++ [(a0, b0)]) A c D) {x : Nat} : ∃ g, A = some ⟨g, 0, none⟩ ∧ (∃ u, w.cell? ⟨g, t0.length * 6 + 2, none⟩ = some u) ∧ w.frozen? ⟨g, t0.length * 6 + 2, none⟩ = false ∧
    let W := w.setCell ⟨g, t0.length * 6 + 2, none⟩ (.int .u64 (x : Int)); Below w2.heap.size w2 W ∧ BoolD W M q D ∧ OwnT W w2.heap.size (.slice A (t0.length + 1) c) (t0.length + 1) (tups (t0 ++ [(a0, x)])) := by
  have hl : (t0 ++ [(a0, b0)]).length = t0.length + 1 := by simp
  have ho := h.own
  rw [hl] at ho
  obtain ⟨g, rfl, hg, cur, hh⟩ : ∃ g, A = some ⟨g, 0, none⟩ ∧ w2.heap.size ≤ g ∧ ∃ cur, w.heap[g]? = some (.cells cur 42 (0, 0)) := by
    rcases ho.2 with ⟨_, h0⟩ | ⟨g, cap, cur, e, hb, hh, _⟩
    · omega
    · injection e with e1 _ e3
      exact ⟨g, e1, hb, cur, hh⟩
  refine ⟨g, rfl, ⟨_, (World.ownsRow.cellAt ho (t0.length * 6 + 2) (by omega)).trans (by
    rw [tups_app, List.getElem?_append_right (by rw [tups_len]; omega), tups_len, Nat.add_sub_cancel_left]; rfl)⟩, World.ownsRow.frozenAt ho _, ?_, ?_, ?_⟩
  · exact ⟨h.bel.os, h.bel.tape, h.bel.output, by rw [show (w.setCell ⟨g, t0.length * 6 + 2, none⟩ (.int .u64 (x : Int))).heap.size = w.heap.size by simp [World.setCell]]; exact h.bel.size, fun k hk => (Below.heap_setCell w _ _ k (by show k ≠ g; omega)).trans (h.bel.block k hk)⟩
  · exact h.map.keep (Below.heap_setCell w _ _ M (fun e => h.map.not_cells hh (show g = M from e.symm)))
  · have := World.ownsRow.stored ho (t0.length * 6 + 2) (.int .u64 (x : Int))
    rw [tups_set_last rfl] at this
    exact this.1
end
theorem Good.calm {bS : Nat → Bool} {tl : List (Nat × Nat)} {k a nb : Nat} {z : Int} (hc : Ch tl) (h : Good bS tl k z) (hk : tl[k]? = some (a, nb)) (hp : bS a = true → 0 < k → ∀ a' b', tl[k - 1]? = some (a', b') → bS a' = true) : Good bS tl (k + 1) (if (bS a && (nb == 0 || !bS nb)) = true then z + 1 else z) := by
  cases hs : bS a with
  | false => simp; exact h.no hk hs
  | true => simp only [Bool.true_and]; exact h.yes hc hk hs (hp hs)
theorem s1_app {w2 w w8 : World} {M q n c : Nat} {A : Option Addr} {D : DataW Unit} {xs : List Value} {tl' : List (Nat × Nat)} {o : Obj} {v : Value} (hb : Below w2.heap.size w2 w) (hM : w2.heap.size ≤ M) (hm : BoolD w M q D) (ho : OwnT w w2.heap.size (.slice A n c) n xs)
    (ho' : OwnT w8 w2.heap.size v (n + 1) (tups tl')) (hk : Kin (w.alloc o) w8 (.slice A n c) v) (hl : tl'.length = n + 1) (hch : Ch tl') (hle : n + 1 ≤ q) : ∃ A9 c9, v = .slice A9 tl'.length c9 ∧ S1 w2 w8 M q tl' A9 c9 D := by
  obtain ⟨A9, c9, rfl, _⟩ := Sl.of_own ho'
  refine ⟨A9, c9, by rw [hl], ?_, hM, ?_, by rw [hl]; exact ho', hch, by omega⟩
  · have h1 : Below w2.heap.size w2 (w.alloc o) := hb.alloc hb.size o
    exact hk.below h1.size (fun g hg => (World.ownsRow.lt ho g hg).1) |> fun h => h1.trans (h.mono (Nat.le_refl _))
  · refine hm.keep ((hk.1.block M (by rw [size_alloc]; have := hm.lt; omega) (Ne.symm (hm.notOwn ho))).trans (Below.heap_alloc w o M hm.lt))
end Go.Proofs.Ytaadkgcpkghgmaa.Clg
