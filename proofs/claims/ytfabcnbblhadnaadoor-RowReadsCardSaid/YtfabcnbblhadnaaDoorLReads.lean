/- KeyReads: its walk. -/
import Derived.Test.YtfabcnbblhadnaaDoorRefR
import Derived.Test.YtfabcnbblhadnaaDoorLBytes
namespace Go.Proofs.YtfabcnbblhadnaaDoor.Mem
open Go.RowKit Go.Proofs.YtfabcnbblhadnaaDoor.Nums
open Go.Proofs.YtfabcnbblhadnaaDoor.Cell (U8)
set_option linter.unusedVariables false
set_option linter.unusedSimpArgs false
set_option maxRecDepth 100000
theorem empty_list : (⟨#[]⟩ : ByteArray).toList.isEmpty = true := by rw [ByteArray.toList_eq]; rfl
theorem right0 : (⟨0, 0, ⟨#[]⟩, false⟩ : V).right = true := by show Cell.rightB 0 0 ⟨#[]⟩ false = true; unfold Cell.rightB; rw [if_pos rfl, empty_list]; rfl
theorem right3 (b : Bool) : (⟨3, 0, ⟨#[]⟩, b⟩ : V).right = true := by show Cell.rightB 3 0 ⟨#[]⟩ b = true; unfold Cell.rightB; rw [if_neg (by decide), if_neg (by decide), if_neg (by decide), if_pos rfl, empty_list]; rfl
theorem right1 (i : Int) : (⟨1, i, ⟨#[]⟩, false⟩ : V).right = true := by show Cell.rightB 1 i ⟨#[]⟩ false = true; unfold Cell.rightB; rw [if_neg (by decide), if_pos rfl, empty_list]; rfl
theorem in0 : Nums.In64 0 := by constructor <;> decide
theorem first_right {x r : List UInt8} {v : V} (h : fFirst x = some (v, r)) : v.right = true ∧ v.ok := by
  cases x with
  | nil => cases h
  | cons b x =>
    change fMark b.toNat x = _ at h
    unfold fMark at h
    split at h
    · injection h with h; injection h with h _; subst h
      exact ⟨right0, in0, Nat.zero_le _⟩
    split at h
    · cases x with
      | nil => cases h
      | cons a x =>
        change (if _ then _ else _) = _ at h
        split at h
        · injection h with h; injection h with h _; subst h
          exact ⟨right3 _, in0, Nat.zero_le _⟩
        · cases h
    split at h
    · unfold fNum at h
      split at h
      · injection h with h; injection h with h _; subst h
        refine ⟨right1 _, ?_, Nat.zero_le _⟩
        rename_i h8 _
        have h1 := beN_lt (x.take 8)
        rw [List.length_take, Nat.min_eq_left h8] at h1
        have h4 : (256 : Nat) ^ 8 = 18446744073709551616 := by decide
        constructor
        · show _ ≤ ((beN (x.take 8) : Nat) : Int) - 9223372036854775808
          omega
        · show ((beN (x.take 8) : Nat) : Int) - 9223372036854775808 ≤ _
          omega
      · cases h
    split at h
    · unfold fText at h
      split at h
      · split at h
        · rename_i hr
          injection h with h; injection h with h _; subst h
          refine ⟨hr, in0, ?_⟩
          have := (right_kind hr).2
          unfold maxLen
          omega
        · cases h
      · cases h
    · cases h
theorem readL_right : ∀ (k : Nat) (x : List UInt8) (l : List V), x.length ≤ k → readL x = some l → l.all V.right = true ∧ ∀ v ∈ l, v.ok
  | k, [], l, _, h => by
    rw [readL_nil] at h
    injection h with h
    subst h
    exact ⟨rfl, by simp⟩
  | 0, b :: x, l, hk, h => by simp at hk
  | k + 1, b :: x, l, hk, h => by
    cases hf : fFirst (b :: x) with
    | none => rw [readL_none hf] at h; cases h
    | some vr =>
      obtain ⟨v, r⟩ := vr
      rw [readL_some hf] at h
      cases hr : readL r with
      | none => rw [hr] at h; cases h
      | some l' =>
        rw [hr] at h
        injection h with h
        subst h
        have hlt := fFirst_lt hf
        obtain ⟨h1, h2⟩ := readL_right k r l' (by omega) hr
        obtain ⟨h3, h4⟩ := first_right hf
        refine ⟨by rw [List.all_cons, h3, h1]; rfl, ?_⟩
        intro u hu
        rcases List.mem_cons.1 hu with e | e
        · rw [e]; exact h4
        · exact h2 u e
def Both (l : List V) (E : Int) (w : World) (e : Ending) (w' : World) : Prop :=
  Below w.heap.size w w' ∧ ∃ A c, e = .returned (.tuple #[.slice A l.length c, .int .i64 E]) ∧ Sl w' w'.heap.size 4 A l.length c (vals l)
theorem rpost_both {x : List UInt8} {l : List V} {E : Int} (h : (readL x = some l ∧ E = 0) ∨ (readL x = none ∧ l = [] ∧ E = 3)) {w w' : World} {e : Ending} (hp : RPost (readL x) w e w') : Both l E w e w' := by
  obtain ⟨hb, hp⟩ := hp
  refine ⟨hb, ?_⟩
  rcases h with ⟨hr, rfl⟩ | ⟨hr, rfl, rfl⟩
  · rw [hr] at hp
    obtain ⟨p, he, ho⟩ := hp
    obtain ⟨A, c, hv, hs⟩ := Sl.of_own ho
    subst hv
    exact ⟨A, c, he, hs⟩
  · rw [hr] at hp
    exact ⟨none, 0, hp, sl_nil _ _ _⟩
theorem read_two (x : List UInt8) : ∃ (l : List V) (E : Int), ((readL x = some l ∧ E = 0) ∨ (readL x = none ∧ l = [] ∧ E = 3)) ∧ sameRow l l = true := by
  cases h : readL x with
  | none => exact ⟨[], 3, .inr ⟨rfl, rfl, rfl⟩, rfl⟩
  | some l =>
    obtain ⟨h1, h2⟩ := readL_right x.length x l (Nat.le_refl _) h
    exact ⟨l, 0, .inl ⟨rfl, rfl⟩, (sameRow_right h1 h1 h2 h2).2 rfl⟩
theorem reads_walk (w : World) (x : List UInt8) (A : Option Addr) (n c : Nat) (hl : x.length = n) (hs : Sl w w.heap.size 1 A n c (u8s x)) (hU : U8 w) :
    Calls Tryd.prog 4 #[.slice A n c] w fun e w' => e = .returned (.bool true) ∧ Below w.heap.size w w' := by
  have HU := Lib.hid hU
  have H1 := Lib.hid hs
  obtain ⟨X, hX⟩ : ∃ X, x.take 300 = X := ⟨_, rfl⟩
  have hXl : X.length = min n 300 := by rw [← hX, List.length_take, hl]; omega
  have hX300 : X.length ≤ 300 := by omega
  have C1 := Lib.hid (fun w' (hx : Sl w' w'.heap.size 1 A n c (u8s x)) => cut_any x A n c 300 w' hx (by omega))
  rw [hX, ← hXl] at C1
  obtain ⟨L, E, hLE, hLL⟩ := read_two X
  have HLE := Lib.hid hLE
  have HLL := Lib.hid hLL
  clear hs hU hl hX hXl hLE hLL
  go_enter Tryd.func4, Tryd.ntmps4
  go_wp2_with fail
  refine (awake_k _ HU.out).mono ?_
  rintro e w1 ⟨rfl, hb1⟩
  have HB1 := Lib.hid hb1
  clear hb1
  go_wp2_with fail
  refine (C1.out _ (H1.out.on HB1.out)).mono ?_
  rintro e w2 ⟨v2, rfl, ho, hb⟩
  have HB2 := Lib.hid (Cell.bel_trans HB1.out hb)
  obtain ⟨A2, c2, hv, hs⟩ := Sl.of_own ho
  subst hv
  have HP := Lib.hid hs
  clear ho hb hs C1 H1 HB1
  obtain ⟨N, hN⟩ : ∃ N, X.length = N := ⟨_, rfl⟩
  have HN := Lib.hid hN
  rw [hN] at HP hX300
  simp only [hN]
  clear hN
  go_wp2_with fail
  refine (copy_any X A2 N c2 _ HP.out (by omega)).mono ?_
  rintro e w3 ⟨v3, rfl, ho, hb⟩
  have HB3 := Lib.hid (Cell.bel_trans HB2.out hb)
  have HC3 := Lib.hid hb
  have HO3 := Lib.hid ho
  have hsz3 := hb.size
  have hszw := HB2.out.size
  clear ho hb
  go_wp2_with (at_builtin; refine wpl_app_b rfl (.tmp 13) (.tmp 14) rfl w2.heap.size v3 _ _ rfl (HO3.out.alloc _) _ _ 1 _ rfl (lies_lit _ _ _ 1 1 rfl) (one1 _ _) (by omega) (by rw [size_alloc]; omega) ?_; intro v4 w4 hown4 hgrow4; obtain ⟨A4, c4, hv4, hs4⟩ := Sl.of_own hown4; subst hv4; have hc4 := hs4.le; have hk4 := hs4.cap; unfold maxLen at hk4; have hc4' : (N : Int) ≤ c4 := by omega)
  have hb24 : Below w2.heap.size w2 w4 := HC3.out.trans (((Cell.bel_alloc w3 _).mono hsz3).trans (own_below hgrow4 (by rw [size_alloc]; omega) (HO3.out.alloc _)))
  have HB4 := Lib.hid (Cell.bel_trans HB2.out hb24)
  have HP4 := Lib.hid (HP.out.on hb24)
  obtain ⟨ad, hA, hAt⟩ := hs4.at_ (by omega)
  subst hA
  have h165 : w4.cell? (ad.add N) = some (.int .u8 165) := hAt.2 N _ (by
    rw [List.getElem?_append_right (by rw [u8s_len, HN.out]; exact Nat.le_refl _), u8s_len, HN.out, Nat.sub_self]
    rfl)
  have hblk : (ad.add N).block < w4.heap.size := by rw [add_block]; exact hAt.1
  have hs4' := hs4.take (k := N) (by omega)
  rw [Nat.mul_one, List.take_left' (by rw [u8s_len]; exact HN.out)] at hs4'
  have HX4 := Lib.hid hs4'
  have H165 := Lib.hid h165
  have hc5 : (N : Int) + 1 ≤ c4 := by omega
  clear hs4 hs4' hown4 hgrow4 hb24 hAt h165 HO3 HC3 HB3 HB2
  refine (kread_any X (some ad) N c4 _ (by omega) HX4.out (HU.out.below HB4.out)).mono ?_
  intro e w5 hp5
  obtain ⟨hb5, A5, c5, rfl, hs5⟩ := rpost_both HLE.out hp5
  have HB5 := Lib.hid (Cell.bel_trans HB4.out hb5)
  have HP5 := Lib.hid (HP4.out.on hb5)
  have HX5 := Lib.hid (HX4.out.on hb5)
  have H165 := Lib.hid ((hb5.cell hblk).trans H165.out)
  have hblk := Nat.lt_of_lt_of_le hblk hb5.size
  have HS5 := Lib.hid hs5
  clear hb5 hs5 hp5
  go_wp2_with fail
  refine (refread_any X A2 N c2 _ (by omega) HP5.out).mono ?_
  intro e w6 hp6
  obtain ⟨hb6, A6, c6, rfl, hs6⟩ := rpost_both HLE.out hp6
  have HB6 := Lib.hid (Cell.bel_trans HB5.out hb6)
  have HP6 := Lib.hid (HP5.out.on hb6)
  have HX6 := Lib.hid (HX5.out.on hb6)
  have HS5 := Lib.hid (HS5.out.on hb6)
  have H165 := Lib.hid ((hb6.cell hblk).trans H165.out)
  have hblk := Nat.lt_of_lt_of_le hblk hb6.size
  have HS6 := Lib.hid hs6
  clear hb6 hs6 hp6
  go_wp2_with fail
  refine (sameRow_any L L A5 _ c5 A6 _ c6 _ rfl rfl HS5.out HS6.out).mono ?_
  rintro e w7 ⟨rfl, hb7⟩
  have HB7 := Lib.hid (Cell.bel_trans HB6.out hb7)
  have HP7 := Lib.hid (HP6.out.on hb7)
  have HX7 := Lib.hid (HX6.out.on hb7)
  have h165 := (hb7.cell hblk).trans H165.out
  clear hb7
  rw [HLL.out]
  go_wp2_with fail
  refine (same_any X X (some ad) N c4 A2 N c2 _ HX7.out HP7.out).mono ?_
  rintro e w8 ⟨rfl, rfl⟩
  simp only [decide_true]
  go_wp2_with fail
  go_ret
  exact ⟨rfl, HB7.out⟩
end Go.Proofs.YtfabcnbblhadnaaDoor.Mem
