/- RowReads: its walk. -/
import Derived.Test.YtfabcnbblhadnaaDoorRefE
import Derived.Test.YtfabcnbblhadnaaDoorRowM
import Derived.Test.YtfabcnbblhadnaaDoorLReads
namespace Go.Proofs.YtfabcnbblhadnaaDoor.Mem
open Go.RowKit Go.Proofs.YtfabcnbblhadnaaDoor.Nums
open Go.Proofs.YtfabcnbblhadnaaDoor.Cell (U8)
set_option linter.unusedVariables false
set_option linter.unusedSimpArgs false
set_option maxRecDepth 100000
theorem rFirst_right {k : Int} {x r : List UInt8} {v : V} (h : rFirst k x = some (v, r)) : v.right = true ∧ v.ok := by
  unfold rFirst at h
  split at h
  · unfold rNum at h
    split at h
    · injection h with h; injection h with h _; subst h
      refine ⟨right1 _, ?_, Nat.zero_le _⟩
      show Nums.In64 (wrap64 (leN (x.take 8) : Int))
      unfold Nums.In64 wrap64
      omega
    · cases h
  split at h
  · cases x with
    | nil => cases h
    | cons b x =>
      simp only [rText] at h
      split at h
      · split at h
        · rename_i hr
          injection h with h; injection h with h _; subst h
          refine ⟨hr, in0, ?_⟩
          have := (right_kind hr).2
          unfold maxLen
          omega
        · cases h
      · cases h
  · cases x with
    | nil => cases h
    | cons b x =>
      change (if _ then _ else _) = _ at h
      split at h
      · injection h with h; injection h with h _; subst h
        exact ⟨right3 _, in0, Nat.zero_le _⟩
      · cases h
theorem readK_right : ∀ (ks : List UInt8) (z : Nat) (x r : List UInt8) (l : List V), readK ks z x = some (l, r) → l.all V.right = true ∧ ∀ v ∈ l, v.ok
  | [], z, x, r, l, h => by
    injection h with h; injection h with h _
    subst h
    exact ⟨rfl, by simp⟩
  | k :: ks, z, x, r, l, h => by
    unfold readK at h
    split at h
    · cases hr : readK ks (z / 2) x with
      | none => rw [hr] at h; cases h
      | some p =>
        obtain ⟨l', r'⟩ := p
        rw [hr] at h
        injection h with h; injection h with h _
        subst h
        obtain ⟨h1, h2⟩ := readK_right ks _ _ _ _ hr
        have h3 : V0.right = true := right0
        refine ⟨by rw [List.all_cons, h3, h1]; rfl, ?_⟩
        intro u hu
        rcases List.mem_cons.1 hu with e | e
        · rw [e]; exact ⟨in0, Nat.zero_le _⟩
        · exact h2 u e
    · cases hf : rFirst (k.toNat : Int) x with
      | none => rw [hf] at h; cases h
      | some q =>
        obtain ⟨v, x'⟩ := q
        rw [hf] at h
        change Option.map _ (readK ks (z / 2) x') = _ at h
        cases hr : readK ks (z / 2) x' with
        | none => rw [hr] at h; cases h
        | some p =>
          obtain ⟨l', r'⟩ := p
          rw [hr] at h
          injection h with h; injection h with h _
          subst h
          obtain ⟨h1, h2⟩ := readK_right ks _ _ _ _ hr
          obtain ⟨h3, h4⟩ := rFirst_right hf
          refine ⟨by rw [List.all_cons, h3, h1]; rfl, ?_⟩
          intro u hu
          rcases List.mem_cons.1 hu with e | e
          · rw [e]; exact h4
          · exact h2 u e
theorem rRow_right (ks x : List UInt8) : (rRow ks x).2.all V.right = true ∧ ∀ v ∈ (rRow ks x).2, v.ok := by
  unfold rRow
  split
  · split
    · exact ⟨rfl, by simp⟩
    · split
      · exact ⟨rfl, by simp⟩
      · split
        · rename_i l h
          exact readK_right _ _ _ _ _ h
        · exact ⟨rfl, by simp⟩
  · exact ⟨rfl, by simp⟩
theorem rRow_two (ks x : List UInt8) : ∃ (l : List V) (E : Int), rRow ks x = (E, l) ∧ sameRow l l = true := by
  obtain ⟨h1, h2⟩ := rRow_right ks x
  exact ⟨_, _, rfl, (sameRow_right h1 h1 h2 h2).2 rfl⟩
theorem rdpost_both {ks x : List UInt8} {l : List V} {E : Int} (h : rRow ks x = (E, l)) {w w' : World} {e : Ending} (hp : RdPost (rRow ks x) w e w') : Both l E w e w' := by
  rw [h] at hp
  obtain ⟨hb, hp⟩ := hp
  refine ⟨hb, ?_⟩
  rcases hp with ⟨h0, p, he, ho⟩ | ⟨h0, hl, he⟩
  · obtain ⟨A, c, hv, hs⟩ := Sl.of_own ho
    subst hv
    have h0' : E = 0 := h0
    subst h0'
    exact ⟨A, c, he, hs⟩
  · have hl' : l = [] := hl
    subst hl'
    exact ⟨none, 0, he, sl_nil _ _ _⟩
theorem rowreads_walk (w : World) (k : List UInt8) (Ak : Option Addr) (nk ck : Nat) (x : List UInt8) (A : Option Addr) (n c : Nat) (hk : k.length = nk) (hks : Sl w w.heap.size 1 Ak nk ck (u8s k)) (hl : x.length = n) (hs : Sl w w.heap.size 1 A n c (u8s x)) (hU : U8 w) :
    Calls Tryd.prog 10 #[.slice Ak nk ck, .slice A n c] w fun e w' => e = .returned (.bool true) ∧ Below w.heap.size w w' := by
  have HU := Lib.hid hU
  have H1 := Lib.hid hs
  have HKS := Lib.hid hks
  have HKN := Lib.hid hk
  have HK12 : Hid ((k.take 12).length = min nk 12) := Lib.hid (by rw [List.length_take, hk]; omega)
  obtain ⟨X, hX⟩ : ∃ X, x.take 300 = X := ⟨_, rfl⟩
  have hXl : X.length = min n 300 := by rw [← hX, List.length_take, hl]; omega
  have hX300 : X.length ≤ 300 := by omega
  have C1 := Lib.hid (fun w' (hx : Sl w' w'.heap.size 1 A n c (u8s x)) => cut_any x A n c 300 w' hx (by omega))
  rw [hX, ← hXl] at C1
  obtain ⟨L, E, hLE, hLL⟩ := rRow_two (k.take 12) X
  have HLE := Lib.hid hLE
  have HLL := Lib.hid hLL
  clear hs hU hl hX hXl hLE hLL hk hks
  go_enter Tryd.func10, Tryd.ntmps10
  go_wp2_with fail
  refine (awake_r _ HU.out).mono ?_
  rintro e w1 ⟨rfl, hb1⟩
  have HB1 := Lib.hid hb1
  clear hb1
  go_wp2_with fail
  refine (C1.out _ (H1.out.on HB1.out)).mono ?_
  rintro e w2 ⟨v2, rfl, ho, hb⟩
  have HB2 := Lib.hid (Cell.bel_trans HB1.out hb)
  obtain ⟨A2, c2, hv, hs⟩ := Sl.of_own ho
  subst hv
  have HP := Lib.hid hs
  clear ho hb hs C1 H1 HB1
  obtain ⟨N, hN⟩ : ∃ N, X.length = N := ⟨_, rfl⟩
  have HN := Lib.hid hN
  rw [hN] at HP hX300
  simp only [hN]
  clear hN
  go_wp2_with fail
  refine (copy_any X A2 N c2 _ HP.out (by omega)).mono ?_
  rintro e w3 ⟨v3, rfl, ho, hb⟩
  have HB3 := Lib.hid (Cell.bel_trans HB2.out hb)
  have HC3 := Lib.hid hb
  have HO3 := Lib.hid ho
  have hsz3 := hb.size
  have hszw := HB2.out.size
  clear ho hb
  go_wp2_with (at_builtin; refine wpl_app_b rfl (.tmp 15) (.tmp 16) rfl w2.heap.size v3 _ _ rfl (HO3.out.alloc _) _ _ 1 _ rfl (lies_lit _ _ _ 1 1 rfl) (one1 _ _) (by omega) (by rw [size_alloc]; omega) ?_; intro v4 w4 hown4 hgrow4; obtain ⟨A4, c4, hv4, hs4⟩ := Sl.of_own hown4; subst hv4; have hc4 := hs4.le; have hk4 := hs4.cap; unfold maxLen at hk4; have hc4' : (N : Int) ≤ c4 := by omega)
  have hb24 : Below w2.heap.size w2 w4 := HC3.out.trans (((Cell.bel_alloc w3 _).mono hsz3).trans (own_below hgrow4 (by rw [size_alloc]; omega) (HO3.out.alloc _)))
  have HB4 := Lib.hid (Cell.bel_trans HB2.out hb24)
  have HP4 := Lib.hid (HP.out.on hb24)
  obtain ⟨ad, hA, hAt⟩ := hs4.at_ (by omega)
  subst hA
  have h165 : w4.cell? (ad.add N) = some (.int .u8 165) := hAt.2 N _ (by
    rw [List.getElem?_append_right (by rw [u8s_len, HN.out]; exact Nat.le_refl _), u8s_len, HN.out, Nat.sub_self]
    rfl)
  have hblk : (ad.add N).block < w4.heap.size := by rw [add_block]; exact hAt.1
  have hs4' := hs4.take (k := N) (by omega)
  rw [Nat.mul_one, List.take_left' (by rw [u8s_len]; exact HN.out)] at hs4'
  have HX4 := Lib.hid hs4'
  have H165 := Lib.hid h165
  have hc5 : (N : Int) + 1 ≤ c4 := by omega
  clear hs4 hs4' hown4 hgrow4 hb24 hAt h165 HO3 HC3 HB3 HB2
  refine (kindsl_any k Ak nk ck _ HKN.out (HKS.out.on HB4.out)).mono ?_
  rintro e w9 ⟨A9, c9, rfl, hs9, hb9⟩
  have HB4 := Lib.hid (Cell.bel_trans HB4.out hb9)
  have HP4 := Lib.hid (HP4.out.on hb9)
  have HX4 := Lib.hid (HX4.out.on hb9)
  have H165 := Lib.hid ((hb9.cell hblk).trans H165.out)
  have hblk := Nat.lt_of_lt_of_le hblk hb9.size
  have HK9 := Lib.hid hs9
  clear hb9 hs9
  go_wp2_with fail
  refine (rread_any (k.take 12) X A9 _ c9 (some ad) N c4 _ HK12.out HN.out HK9.out HX4.out (HU.out.below HB4.out)).mono ?_
  intro e w5 hp5
  obtain ⟨hb5, A5, c5, rfl, hs5⟩ := rdpost_both HLE.out hp5
  have HB5 := Lib.hid (Cell.bel_trans HB4.out hb5)
  have HP5 := Lib.hid (HP4.out.on hb5)
  have HX5 := Lib.hid (HX4.out.on hb5)
  have H165 := Lib.hid ((hb5.cell hblk).trans H165.out)
  have hblk := Nat.lt_of_lt_of_le hblk hb5.size
  have HS5 := Lib.hid hs5
  clear hb5 hs5 hp5
  go_wp2_with fail
  refine (kindsl_any k Ak nk ck _ HKN.out (HKS.out.on HB5.out)).mono ?_
  rintro e w10 ⟨A10, c10, rfl, hs10, hb10⟩
  have HB5 := Lib.hid (Cell.bel_trans HB5.out hb10)
  have HP5 := Lib.hid (HP5.out.on hb10)
  have HX5 := Lib.hid (HX5.out.on hb10)
  have HS5 := Lib.hid (HS5.out.on hb10)
  have H165 := Lib.hid ((hb10.cell hblk).trans H165.out)
  have hblk := Nat.lt_of_lt_of_le hblk hb10.size
  have HK10 := Lib.hid hs10
  clear hb10 hs10
  go_wp2_with fail
  refine (refread4_any (k.take 12) X A10 _ c10 A2 N c2 _ HK12.out HN.out HK10.out HP5.out).mono ?_
  intro e w6 hp6
  obtain ⟨hb6, A6, c6, rfl, hs6⟩ := rdpost_both HLE.out hp6
  have HB6 := Lib.hid (Cell.bel_trans HB5.out hb6)
  have HP6 := Lib.hid (HP5.out.on hb6)
  have HX6 := Lib.hid (HX5.out.on hb6)
  have HS5 := Lib.hid (HS5.out.on hb6)
  have H165 := Lib.hid ((hb6.cell hblk).trans H165.out)
  have hblk := Nat.lt_of_lt_of_le hblk hb6.size
  have HS6 := Lib.hid hs6
  clear hb6 hs6 hp6
  go_wp2_with fail
  refine (sameRow_any L L A5 _ c5 A6 _ c6 _ rfl rfl HS5.out HS6.out).mono ?_
  rintro e w7 ⟨rfl, hb7⟩
  have HB7 := Lib.hid (Cell.bel_trans HB6.out hb7)
  have HP7 := Lib.hid (HP6.out.on hb7)
  have HX7 := Lib.hid (HX6.out.on hb7)
  have h165 := (hb7.cell hblk).trans H165.out
  clear hb7
  rw [HLL.out]
  go_wp2_with fail
  refine (same_any X X (some ad) N c4 A2 N c2 _ HX7.out HP7.out).mono ?_
  rintro e w8 ⟨rfl, rfl⟩
  simp only [decide_true]
  go_wp2_with fail
  go_ret
  exact ⟨rfl, HB7.out⟩
end Go.Proofs.YtfabcnbblhadnaaDoor.Mem
