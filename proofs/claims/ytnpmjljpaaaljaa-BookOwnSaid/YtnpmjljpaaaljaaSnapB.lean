/- slices.DeleteFunc with snap.Take's own function; Take. -/
import Derived.Test.YtnpmjljpaaaljaaSnapA
namespace Go.Proofs.Ytnpmjljpaaaljaa.Clg
open Go.ChangeMaps Go.MapKept Go.RowKit Go.Proofs.Ytnpmjljpaaaljaa.Nums Go.Proofs.Ytnpmjljpaaaljaa.Mem
set_option linter.unusedVariables false
set_option linter.unusedSimpArgs false
set_option maxRecDepth 100000
/-- places k to j - 2 have what stood one further -/
def shift (R : List Nat) (k j : Nat) : List Nat := (List.range R.length).map fun t => R.getD (if k ≤ t ∧ t + 1 < j then t + 1 else t) 0
theorem shift_len (R : List Nat) (k j : Nat) : (shift R k j).length = R.length := by simp [shift]
theorem shift_at {R : List Nat} {k j t : Nat} (ht : t < R.length) : (shift R k j)[t]? = some (R.getD (if k ≤ t ∧ t + 1 < j then t + 1 else t) 0) := by
  unfold shift
  rw [List.getElem?_map, List.getElem?_range ht]
  rfl
theorem getD_at {R : List Nat} {t y : Nat} (h : R[t]? = some y) : R.getD t 0 = y := by rw [List.getD_eq_getElem?_getD, h]; rfl
theorem shift_first {R : List Nat} {k : Nat} (hk : k < R.length) : shift R k (k + 1) = R := by
  apply List.ext_getElem?
  intro t
  by_cases ht : t < R.length
  · rw [shift_at ht, if_neg (by omega), List.getElem?_eq_getElem ht, getD_at (List.getElem?_eq_getElem ht)]
  · rw [List.getElem?_eq_none (by rw [shift_len]; omega), List.getElem?_eq_none (by omega)]
theorem shift_set {R : List Nat} {k j y : Nat} (h1 : k + 1 ≤ j) (hy : R[j]? = some y) : (shift R k j).set (j - 1) y = shift R k (j + 1) := by
  have hj := (List.getElem?_eq_some_iff.1 hy).1
  apply List.ext_getElem?
  intro t
  by_cases ht : t < R.length
  · rw [shift_at ht, List.getElem?_set]
    by_cases e : j - 1 = t
    · rw [if_pos e, if_pos (by rw [shift_len]; omega), if_pos (by omega), show t + 1 = j by omega, getD_at hy]
    · rw [if_neg e, shift_at ht]
      by_cases h2 : k ≤ t ∧ t + 1 < j
      · rw [if_pos h2, if_pos (by omega)]
      · rw [if_neg h2, if_neg (by omega)]
  · rw [List.getElem?_eq_none (by rw [List.length_set, shift_len]; omega), List.getElem?_eq_none (by rw [shift_len]; omega)]
theorem shift_last {R : List Nat} {k : Nat} (hk : k < R.length) : (shift R k R.length).take (R.length - 1) = R.take k ++ R.drop (k + 1) := by
  apply List.ext_getElem?
  intro t
  rw [List.getElem?_take]
  by_cases ht : t < R.length - 1
  · rw [if_pos ht, shift_at (by omega)]
    by_cases h1 : k ≤ t
    · rw [if_pos (by omega), List.getElem?_append_right (by rw [List.length_take]; omega), List.length_take, List.getElem?_drop, show k + 1 + (t - min k R.length) = t + 1 by omega, List.getElem?_eq_getElem (by omega), getD_at (List.getElem?_eq_getElem (by omega))]
    · rw [if_neg (by omega), List.getElem?_append_left (by rw [List.length_take]; omega), List.getElem?_take, if_pos (by omega), List.getElem?_eq_getElem (by omega), getD_at (List.getElem?_eq_getElem (by omega))]
  · rw [if_neg ht, List.getElem?_eq_none (by rw [List.length_append, List.length_take, List.length_drop]; omega)]
theorem ixOf_at {x : Nat} : ∀ {R : List Nat} {k j : Nat}, R[k]? = some x → (∀ t y, t < k → R[t]? = some y → y ≠ x) → ixOf x R j = ((j + k : Nat) : Int)
  | [], k, j, h, _ => by simp at h
  | y :: R, 0, j, h, _ => by
    simp at h
    subst h
    show (if y = y then (j : Int) else _) = _
    rw [if_pos rfl]
    rfl
  | y :: R, k + 1, j, h, h2 => by
    show (if y = x then (j : Int) else ixOf x R (j + 1)) = _
    rw [if_neg (h2 0 y (by omega) rfl), ixOf_at (k := k) (j := j + 1) (by simpa using h) (fun t z ht hz => h2 (t + 1) z (by omega) (by simpa using hz))]
    congr 1
    omega
theorem ixOf_no {x : Nat} {R : List Nat} (h : ¬ x ∈ R) (k : Nat) : ixOf x R k = -1 := by
  rcases ixOf_ge x R k with ⟨h1, _⟩ | ⟨_, h2⟩
  · unfold foundB at h1
    rw [List.contains_iff_mem] at h1
    exact absurd h1 h
  · exact h2
theorem delf_no {w : World} {A : Option Addr} {c : Nat} {R : List Nat} (hs : SlU w A c R) {a : Addr} {own : Nat} (ha : w.cell? a = some (.int .u64 (own : Int))) (hn : ¬ own ∈ R) :
    Calls Try.prog 56 #[.slice A R.length c, clo a] w fun e w' => e = .returned (.slice A R.length c) ∧ w = w' := by
  have CI := indexFunc_any hs ha
  rw [ixOf_no hn] at CI
  unfold clo at CI ⊢
  have CI := Lib.hid CI
  generalize R.length = n at *
  clear hs ha hn
  go_enter Try.func56, Try.ntmps56
  go_wp2_with fail
  refine CI.out.mono ?_
  rintro e w1 ⟨rfl, rfl⟩
  go_wp2_with fail
  go_ret
  exact ⟨rfl, rfl⟩
set_option maxHeartbeats 2000000 in
theorem delf_yes {w : World} {B c n k : Nat} {A : Option Addr} {R : List Nat} (hl : R.length = n) (h : OwnU w B (.slice A n c) n (u64s R)) {a : Addr} {own : Nat} (ha : w.cell? a = some (.int .u64 (own : Int))) (hab : (Value.slice A n c).ownBlock ≠ some a.block)
    (hk : R[k]? = some own) (hu : ∀ t y, t ≠ k → R[t]? = some y → y ≠ own) :
    Calls Try.prog 56 #[.slice A n c, clo a] w fun e w' => e = .returned (.slice A (n - 1 : Nat) c) ∧ OwnU w' B (.slice A (n - 1 : Nat) c) (n - 1) (u64s (R.take k ++ R.drop (k + 1))) ∧ Turn (fun g => (Value.slice A n c).ownBlock = some g) w w' := by
  have hkl := (List.getElem?_eq_some_iff.1 hk).1
  have hslu : SlU w A c R := by
    obtain ⟨A', c', e, hs⟩ := Sl.of_own h
    injection e with e1 _ e2
    subst e1 e2
    unfold SlU
    rw [hl]
    exact hs
  have CI := indexFunc_any hslu ha
  rw [hl, ixOf_at hk (fun t y ht hy => hu t y (by omega) hy), Nat.zero_add] at CI
  obtain ⟨g, cur, rfl, hB, hb, hc, hm, hs, ht⟩ := own_parts h (by omega)
  unfold clo at CI ⊢
  have CI := Lib.hid CI
  have HL := Lib.hid hl
  have HK := Lib.hid hk
  have HU := Lib.hid hu
  have hO0 : OwnU w B (.slice (some ⟨g, 0, none⟩) n c) n (u64s (shift R k (k + 1))) := by rw [shift_first (by omega)]; exact h
  have HO0 := Lib.hid hO0
  have HA0 := Lib.hid ha
  have hga : a.block ≠ g := fun e => hab (by rw [e]; rfl)
  have HGA := Lib.hid hga
  have hkn : k < n := by omega
  have hkn' : (k : Int) < n := by omega
  have hk1 : ((k : Int) == -1) = false := by rw [beq_eq_false_iff_ne]; omega
  unfold maxLen at hm
  clear hslu h hb hs ht hO0 ha hab hga hk hu hl hkl
  go_enter Try.func56, Try.ntmps56
  go_wp2_with fail
  refine CI.out.mono ?_
  rintro e w1 ⟨rfl, rfl⟩
  go_wp2_with fail
  go_loopw [5, 6] (fun i j wr => ∃ q : Nat, k + 1 ≤ q ∧ q ≤ n ∧ j = .int .i64 q ∧ i = .int .i64 ((q - 1 : Nat) : Int) ∧ OwnU wr B (.slice (some ⟨g, 0, none⟩) n c) n (u64s (shift R k q)) ∧ Turn (fun x => (Value.slice (some ⟨g, 0, none⟩) n c).ownBlock = some x) w wr) (fun _ j _ => n - (intOf j).toNat)
  case atStart => exact ⟨k + 1, by omega, by omega, by go_num, by rw [Nat.add_sub_cancel], HO0.out, Turn.refl _ _⟩
  case round =>
    obtain ⟨q, hq1, hq2, rfl, rfl, ho, ht⟩ := hrel
    have HO := Lib.hid ho
    have HT := Lib.hid ht
    have hb := (own_parts ho (by omega))
    clear ho ht HO0
    obtain ⟨g', cur', hg', hB', hb', hc', hm', hs', ht'⟩ := hb
    injection hg' with hg'
    injection hg' with hg'
    subst hg'
    have HBB := Lib.hid hb'
    have HSZ := Lib.hid hs'
    have HTK := Lib.hid ht'
    clear hB' hb' hc' hm' hs' ht'
    have xa : wr.cell? a = some (.int .u64 (own : Int)) := by
      have : wr.heap[a.block]? = w.heap[a.block]? := HT.out.block _ (World.block_lt_of_cell? w _ HA0.out) (fun e => HGA.out (by simpa [Value.ownBlock] using e.symm))
      have h0 := HA0.out
      unfold World.cell? at h0 ⊢
      rw [this]
      exact h0
    by_cases hlt : q < n
    · have hlt' : (q : Int) < n := by omega
      obtain ⟨y, hy⟩ : ∃ y, R[q]? = some y := ⟨_, List.getElem?_eq_getElem (by have := HL.out; omega)⟩
      have x0 : wr.cell? ⟨g, q, none⟩ = some (.int .u64 (y : Int)) := by
        rw [HBB.out.cell, ← Array.getElem?_toList, ← (show (cur'.toList.take n)[q]? = cur'.toList[q]? by rw [List.getElem?_take, if_pos hlt]), HTK.out]
        exact u64s_at (by rw [shift_at (by have := HL.out; omega), if_neg (by omega), getD_at hy])
      have f0 := HBB.out.frozen (q - 1)
      have x1 : ∃ v, wr.cell? ⟨g, q - 1, none⟩ = some v := by
        rw [HBB.out.cell, Array.getElem?_eq_getElem (by have := HSZ.out; omega)]
        exact ⟨_, rfl⟩
      obtain ⟨v1, x1⟩ := x1
      have CT := take1_any xa y
      rw [decide_eq_false (HU.out q y (by omega) hy)] at CT
      have CT := Lib.hid CT
      have hw := World.ownsRow.stored HO.out (q - 1) (.int .u64 (y : Int))
      have hls : (u64s (shift R k q)).set (q - 1) (.int .u64 (y : Int)) = u64s (shift R k (q + 1)) := by
        rw [← shift_set hq1 hy]
        unfold u64s
        rw [List.map_set]
      rw [hls] at hw
      have HW := Lib.hid hw
      have hq3 : ((q - 1 : Nat) : Int) + 1 = (q : Int) := by omega
      have hq4 : ((q - 1 : Nat) : Int) < n := by omega
      clear hy hw hls xa
      generalize hqq : q - 1 = p at *
      have HQQ := Lib.hid hqq
      clear hqq
      go_wp2_with fail
      refine CT.out.mono ?_
      rintro e w2 ⟨rfl, rfl⟩
      go_wp2_with fail
      go_roundw
      case rel => exact ⟨q + 1, by omega, by omega, by go_num, by rw [show q + 1 - 1 = q by omega], HW.out.1, HT.out.set_ (p := ⟨g, p, none⟩) (.inl rfl) _⟩
      case measure => simp [intOf]; omega
    · obtain rfl : q = n := by omega
      have hcl : ∀ ty, (Builtin.clear_ #[46] ty #[.slice (some ⟨g, q - 1, none⟩) (q - (q - 1)) (c - (q - 1))]).run Try.prog wr = .ok (.tuple #[]) (wr.setCells g (q - 1) (List.replicate 1 (.int .u64 0))) := fun ty => by
        have e2 : q - (q - 1) = 1 := by omega
        rw [e2]
        exact Lib.run_clear_slice wr _ _ ty _ Try.underlying46 Try.zeroValue28 rfl rfl g (q - 1) 1 _ (by omega) (fun t ht => by
          rw [HBB.out.cell, Array.getElem?_eq_getElem (by have := HSZ.out; omega)]; rfl) (fun t ht => HBB.out.frozen _)
      have hne : ¬ c = q - 1 := by omega
      have hq4 : ((q - 1 : Nat) : Int) ≤ c := by omega
      have hq5 : q - 1 ≤ c := by omega
      have HD : Hid (OwnU (wr.setCells g (q - 1) [.int .u64 0]) B (.slice (some ⟨g, 0, none⟩) (q - 1 : Nat) c) (q - 1) (u64s (R.take k ++ R.drop (k + 1))) ∧ Turn (fun x => (Value.slice (some ⟨g, 0, none⟩) q c).ownBlock = some x) w (wr.setCells g (q - 1) [.int .u64 0])) := Lib.hid (by
        have hb2 := blk_put [.int .u64 0] (q - 1) HBB.out
        have hlr := HL.out
        refine ⟨⟨?_, .inr ⟨g, c, _, rfl, hB, hb2, by omega, by unfold maxLen; exact hm, ?_, ?_⟩⟩, turn_put (F := fun x => (Value.slice (some ⟨g, 0, none⟩) q c).ownBlock = some x) rfl _ _ HT.out⟩
        · rw [u64s_len, List.length_append, List.length_take, List.length_drop]; omega
        · rw [putA_size, Nat.mul_one]; exact HSZ.out
        · have h1 := shift_last (R := R) (k := k) (by omega)
          rw [hlr] at h1
          rw [Nat.mul_one, ← h1]
          have h2 : u64s ((shift R k q).take (q - 1)) = (u64s (shift R k q)).take (q - 1) := by unfold u64s; rw [List.map_take]
          rw [h2, ← HTK.out]
          apply List.ext_getElem?
          intro t
          rw [List.getElem?_take, List.getElem?_take]
          by_cases ht : t < q - 1
          · rw [if_pos ht, if_pos ht, List.getElem?_take, if_pos (by omega), Array.getElem?_toList, Array.getElem?_toList, putA_at _ _ _ _ (by have := HSZ.out; simp; omega), if_neg (by omega)]
          · rw [if_neg ht, if_neg ht])
      clear xa
      go_wp2_with fail
      go_ret
      exact ⟨rfl, HD.out⟩
/-- those that run but one -/
def runX (f : Nat) (S : List Nat) (own : Nat) : List Nat := (runs f S).filter (fun x => x != own)
def xminOf (f : Nat) (S : List Nat) (own : Nat) : Nat := (runX f S own).headD (f + S.length)
theorem filter_out {R : List Nat} (h : R.Pairwise (· < ·)) {k x : Nat} (hk : R[k]? = some x) : R.take k ++ R.drop (k + 1) = R.filter (fun y => y != x) := by
  obtain ⟨h1, h2⟩ := rise_out h hk
  refine ext_rise h1 (h.filter _) fun y => ?_
  rw [h2, List.mem_filter]
  simp
theorem filter_all {R : List Nat} {x : Nat} (h : ¬ x ∈ R) : R.filter (fun y => y != x) = R := by
  rw [List.filter_eq_self]
  intro y hy
  simp
  rintro rfl
  exact h hy
/-- DeleteFunc on a new list -/
theorem delf_any {w w0 : World} {c : Nat} {A : Option Addr} {R : List Nat} (hR : R.Pairwise (· < ·)) (h : OwnU w w0.heap.size (.slice A R.length c) R.length (u64s R)) (hb0 : Below w0.heap.size w0 w) {a : Addr} {own : Nat} (ha : w.cell? a = some (.int .u64 (own : Int))) (hab : a.block < w0.heap.size) :
    Calls Try.prog 56 #[.slice A R.length c, clo a] w fun e w' => e = .returned (.slice A (R.filter (fun y => y != own)).length c) ∧ OwnU w' w0.heap.size (.slice A (R.filter (fun y => y != own)).length c) (R.filter (fun y => y != own)).length (u64s (R.filter (fun y => y != own))) ∧ Below w0.heap.size w0 w' := by
  by_cases hm : own ∈ R
  · obtain ⟨k, hk⟩ := List.mem_iff_getElem?.1 hm
    have hkl := (List.getElem?_eq_some_iff.1 hk).1
    have hf := filter_out hR hk
    have hl : (R.filter (fun y => y != own)).length = R.length - 1 := by rw [← hf, List.length_append, List.length_take, List.length_drop]; omega
    refine (delf_yes rfl h ha (fun e => ?_) hk (fun t y hne hy e => ?_)).mono ?_
    · have := (h.lt _ e).1; omega
    · subst e
      rcases Nat.lt_or_gt_of_ne hne with h1 | h1
      · have := rise_at hR hy hk h1; omega
      · have := rise_at hR hk hy h1; omega
    · rintro e w' ⟨rfl, ho, ht⟩
      rw [hl, ← hf]
      exact ⟨rfl, ho, hb0.trans (ht.below hb0.size (fun g hg => (h.lt g hg).1))⟩
  · have hs : SlU w A c R := by
      obtain ⟨A', c', e, hs⟩ := Sl.of_own h
      injection e with e1 _ e2
      subst e1 e2
      exact hs
    refine (delf_no hs ha hm).mono ?_
    rintro e w' ⟨rfl, rfl⟩
    rw [filter_all hm]
    exact ⟨rfl, h, hb0⟩
/-- a snapshot, as a value -/
def snV (own xmin xmax : Nat) (A : Option Addr) (n c : Nat) : Value := .agg #[.int .u64 (own : Int), .int .u64 (xmin : Int), .int .u64 (xmax : Int), .slice A n c]
def TakeP (w : World) (f : Nat) (S : List Nat) (own : Nat) (e : Ending) (w' : World) : Prop :=
  ∃ A c, e = .returned (.agg #[.int .u64 (own : Int), .int .u64 (xminOf f S own : Int), .int .u64 ((f + S.length : Nat) : Int), .slice A (runX f S own).length c]) ∧ SlU w' A c (runX f S own) ∧ (∀ ad, 0 < (runX f S own).length → A = some ad → w.heap.size ≤ ad.block) ∧ Below w.heap.size w w'
end Go.Proofs.Ytnpmjljpaaaljaa.Clg
