/- KeyBehind: the mathematics, and its walk. -/
import Derived.Test.YtfabcnbblhadnaaDoorAwakeK
namespace Go.Proofs.YtfabcnbblhadnaaDoor.Mem
open Go.RowKit Go.Proofs.YtfabcnbblhadnaaDoor.Nums
open Go.Proofs.YtfabcnbblhadnaaDoor.Cell (U8)
open Go.Op (bytesLess)
set_option linter.unusedVariables false
set_option linter.unusedSimpArgs false
set_option maxRecDepth 100000
theorem bl_cons (a b : UInt8) (x y : List UInt8) : bytesLess (a :: x) (b :: y) = (decide (a < b) || (a == b && bytesLess x y)) := rfl
theorem bl_nil (x : List UInt8) : bytesLess x [] = false := by cases x <;> rfl
theorem u8_tri (a b : UInt8) : a < b ∨ a = b ∨ b < a := by
  rcases Nat.lt_trichotomy a.toNat b.toNat with h | h | h
  · exact .inl (UInt8.lt_iff_toNat_lt.2 h)
  · exact .inr (.inl (UInt8.toNat_inj.1 h))
  · exact .inr (.inr (UInt8.lt_iff_toNat_lt.2 h))
theorem u8_irr (a : UInt8) : ¬ a < a := fun h => by have := UInt8.lt_iff_toNat_lt.1 h; omega
theorem u8_ne_of_lt {a b : UInt8} (h : a < b) : (a == b) = false := by
  rw [beq_eq_false_iff_ne]
  rintro rfl
  exact u8_irr _ h
theorem u8_ne_of_gt {a b : UInt8} (h : b < a) : (a == b) = false := by
  rw [beq_eq_false_iff_ne]
  rintro rfl
  exact u8_irr _ h
theorem u8_not_gt {a b : UInt8} (h : a < b) : decide (b < a) = false := by
  rw [decide_eq_false_iff_not]
  intro h2
  have := UInt8.lt_iff_toNat_lt.1 h
  have := UInt8.lt_iff_toNat_lt.1 h2
  omega
theorem bl_app (pre u v : List UInt8) : bytesLess (pre ++ u) (pre ++ v) = bytesLess u v := by
  induction pre with
  | nil => rfl
  | cons a pre ih =>
    show bytesLess (a :: (pre ++ u)) (a :: (pre ++ v)) = _
    rw [bl_cons, decide_eq_false (u8_irr a), ih]
    simp
theorem bl_ff (fs o : List UInt8) (h : ∀ x ∈ fs, x = 255) : bytesLess o fs = !(fs.isPrefixOf o) := by
  induction fs generalizing o with
  | nil => rw [bl_nil]; cases o <;> rfl
  | cons f fs ih =>
    have hf : f = 255 := h f (by simp)
    subst hf
    cases o with
    | nil => rfl
    | cons d o =>
      rw [bl_cons]
      show _ = !((255 == d) && fs.isPrefixOf o)
      rw [ih o (fun x hx => h x (by simp [hx]))]
      by_cases hd : d = 255
      · subst hd
        rw [decide_eq_false (u8_irr 255)]
        simp
      · have : d < 255 := by
          rcases u8_tri d 255 with x | x | x
          · exact x
          · exact absurd x hd
          · have := UInt8.lt_iff_toNat_lt.1 x
            have := d.toNat_lt
            have : (255 : UInt8).toNat = 255 := rfl
            omega
        rw [decide_eq_true this, u8_ne_of_gt this]
        rfl
theorem succ_lt {b c : UInt8} (hb : b.toNat ≤ 254) : (c < UInt8.ofNat (b.toNat + 1)) ↔ c.toNat ≤ b.toNat := by
  rw [UInt8.lt_iff_toNat_lt, UInt8.toNat_ofNat']
  omega
theorem behind_before (pre fs more : List UInt8) (b : UInt8) (hb : b.toNat ≤ 254) : bytesLess (pre ++ b :: fs ++ more) (pre ++ [UInt8.ofNat (b.toNat + 1)]) = true := by
  rw [List.append_assoc, bl_app]
  show bytesLess (b :: (fs ++ more)) _ = true
  rw [bl_cons, decide_eq_true ((succ_lt hb).2 (Nat.le_refl _))]
  rfl
theorem behind_in (pre fs o : List UInt8) (b : UInt8) (hb : b.toNat ≤ 254) (hf : ∀ x ∈ fs, x = 255) :
    (!bytesLess o (pre ++ b :: fs) && bytesLess o (pre ++ [UInt8.ofNat (b.toNat + 1)])) = (pre ++ b :: fs).isPrefixOf o := by
  induction pre generalizing o with
  | nil =>
    cases o with
    | nil => rfl
    | cons c o =>
      show (!bytesLess (c :: o) (b :: fs) && bytesLess (c :: o) [UInt8.ofNat (b.toNat + 1)]) = ((b == c) && fs.isPrefixOf o)
      rw [bl_cons, bl_cons, bl_nil, Bool.and_false, Bool.or_false]
      rcases u8_tri c b with h | h | h
      · rw [decide_eq_true h, u8_ne_of_gt h]
        simp
      · subst h
        rw [decide_eq_false (u8_irr c), decide_eq_true ((succ_lt hb).2 (Nat.le_refl _)), bl_ff fs o hf]
        simp
      · have h3 : decide (c < UInt8.ofNat (b.toNat + 1)) = false := decide_eq_false (fun h2 => by have := (succ_lt hb).1 h2; have := UInt8.lt_iff_toNat_lt.1 h; omega)
        rw [u8_ne_of_lt h, u8_ne_of_gt h, u8_not_gt h, h3]
        rfl
  | cons a pre ih =>
    cases o with
    | nil => rfl
    | cons c o =>
      show (!bytesLess (c :: o) (a :: (pre ++ b :: fs)) && bytesLess (c :: o) (a :: (pre ++ [UInt8.ofNat (b.toNat + 1)]))) = ((a == c) && (pre ++ b :: fs).isPrefixOf o)
      rw [bl_cons, bl_cons, ← ih o]
      rcases u8_tri c a with h | h | h
      · rw [decide_eq_true h, u8_ne_of_gt h]
        simp
      · subst h
        rw [decide_eq_false (u8_irr c)]
        simp
      · rw [u8_ne_of_lt h, u8_not_gt h, u8_ne_of_gt h]
        simp
/-- what is behind, told in parts -/
theorem beh_parts {p y : List UInt8} (h : Beh p y) : (p.all (· == 255) = true ∧ y = []) ∨ (p.all (· == 255) = false ∧ ∃ pre b fs, p = pre ++ b :: fs ∧ b.toNat ≤ 254 ∧ (∀ x ∈ fs, x = 255) ∧ y = pre ++ [UInt8.ofNat (b.toNat + 1)]) := by
  obtain ⟨k, hk, hall, ⟨rfl, rfl⟩ | ⟨m, b, rfl, hb, hb2, rfl⟩⟩ := h
  · left
    refine ⟨?_, rfl⟩
    rw [List.all_eq_true]
    intro x hx
    obtain ⟨j, hj, e⟩ := List.mem_iff_getElem.1 hx
    have := hall j (Nat.zero_le _) hj
    rw [List.getElem?_eq_getElem hj, e] at this
    injection this with this
    rw [this]
    rfl
  · right
    have hm : m < p.length := by omega
    obtain ⟨_, e⟩ := List.getElem?_eq_some_iff.1 hb
    refine ⟨?_, p.take m, b, p.drop (m + 1), ?_, hb2, ?_, rfl⟩
    · rw [List.all_eq_false]
      refine ⟨b, List.mem_of_getElem? hb, ?_⟩
      intro h
      have : b = 255 := by simpa using h
      rw [this] at hb2
      exact absurd hb2 (by decide)
    · rw [← e, ← List.drop_eq_getElem_cons hm, List.take_append_drop]
    · intro x hx
      obtain ⟨j, hj, e⟩ := List.mem_iff_getElem.1 hx
      rw [List.length_drop] at hj
      have := hall (m + 1 + j) (by omega) (by omega)
      rw [List.getElem?_eq_getElem (by omega)] at this
      injection this with this
      rw [← e, List.getElem_drop, this]
theorem begins_eq (o p : List UInt8) : (decide (p.length ≤ o.length) && decide (o.take p.length = p)) = p.isPrefixOf o := by
  rw [Bool.eq_iff_iff, List.isPrefixOf_iff_prefix, List.prefix_iff_eq_take]
  simp only [Bool.and_eq_true, decide_eq_true_eq]
  constructor
  · rintro ⟨_, h⟩; exact h.symm
  · intro h
    refine ⟨?_, h.symm⟩
    have := congrArg List.length h
    rw [List.length_take] at this
    omega
theorem begins_any (x y : List UInt8) (A : Option Addr) (n c : Nat) (A' : Option Addr) (n' c' : Nat) (w : World) (hx : Sl w w.heap.size 1 A n c (u8s x)) (hy : Sl w w.heap.size 1 A' n' c' (u8s y)) :
    Calls Tryd.prog 29 #[.slice A n c, .slice A' n' c'] w fun e w' => e = .returned (.bool (y.isPrefixOf x)) ∧ w = w' := by
  have lx : x.length = n := by have := hx.len; rw [u8s_len] at this; omega
  have ly : y.length = n' := by have := hy.len; rw [u8s_len] at this; omega
  have hcap := hx.cap
  have hcap' := hy.cap
  unfold maxLen at hcap hcap'
  have hle := hx.le
  have hle' := hy.le
  have HE := Lib.hid (begins_eq x y)
  by_cases h : n' ≤ n
  · have h' : (n' : Int) ≤ n := by omega
    have h2 : (n' : Int) ≤ c := by omega
    have HR : Hid (y.isPrefixOf x = decide (x.take n' = y)) := Lib.hid (by rw [← HE.out, lx, ly, decide_eq_true h, Bool.true_and])
    have hx' := hx.take h
    rw [Nat.mul_one, u8s_take] at hx'
    have HX := Lib.hid hx'
    have HY := Lib.hid hy
    clear hx hy hx' lx ly
    go_enter Tryd.func29, Tryd.ntmps29
    go_wp2_with fail
    refine (same_any (x.take n') y A n' c A' n' c' _ HX.out HY.out).mono ?_
    rintro e w' ⟨rfl, rfl⟩
    go_wp2_with fail
    go_ret
    exact ⟨by rw [HR.out]; rfl, rfl⟩
  · have h' : ¬ (n' : Int) ≤ n := by omega
    have HR : Hid (y.isPrefixOf x = false) := Lib.hid (by rw [← HE.out, lx, ly, decide_eq_false h, Bool.false_and])
    clear hx hy lx ly
    go_enter Tryd.func29, Tryd.ntmps29
    go_wp2_with fail
    go_ret
    exact ⟨by rw [HR.out]; rfl, rfl⟩
theorem behind_walk (w : World) (p : List UInt8) (A : Option Addr) (n c : Nat) (more : List UInt8) (A' : Option Addr) (n' c' : Nat) (o : List UInt8) (A'' : Option Addr) (n'' c'' : Nat) (hl : p.length = n) (hs : Sl w w.heap.size 1 A n c (u8s p)) (hl' : more.length = n') (hs' : Sl w w.heap.size 1 A' n' c' (u8s more)) (hl'' : o.length = n'') (hs'' : Sl w w.heap.size 1 A'' n'' c'' (u8s o)) (hU : U8 w) :
    Calls Tryd.prog 6 #[.slice A n c, .slice A' n' c', .slice A'' n'' c''] w fun e w' => e = .returned (.bool true) ∧ Below w.heap.size w w' := by
  have HU := Lib.hid hU
  have H1 := Lib.hid hs
  have H2 := Lib.hid hs'
  have H3 := Lib.hid hs''
  obtain ⟨P, hP⟩ : ∃ P, p.take 60 = P := ⟨_, rfl⟩
  obtain ⟨M, hM⟩ : ∃ M, more.take 60 = M := ⟨_, rfl⟩
  obtain ⟨O, hO⟩ : ∃ O, o.take 60 = O := ⟨_, rfl⟩
  have hPl : P.length = min n 60 := by rw [← hP, List.length_take, hl]; omega
  have hMl : M.length = min n' 60 := by rw [← hM, List.length_take, hl']; omega
  have hOl : O.length = min n'' 60 := by rw [← hO, List.length_take, hl'']; omega
  have hP60 : P.length ≤ 60 := by omega
  have hM60 : M.length ≤ 60 := by omega
  have C1 := Lib.hid (fun w' (hx : Sl w' w'.heap.size 1 A n c (u8s p)) => cut_any p A n c 60 w' hx (by omega))
  have C2 := Lib.hid (fun w' (hx : Sl w' w'.heap.size 1 A' n' c' (u8s more)) => cut_any more A' n' c' 60 w' hx (by omega))
  have C3 := Lib.hid (fun w' (hx : Sl w' w'.heap.size 1 A'' n'' c'' (u8s o)) => cut_any o A'' n'' c'' 60 w' hx (by omega))
  rw [hP, ← hPl] at C1
  rw [hM, ← hMl] at C2
  rw [hO, ← hOl] at C3
  clear hs hs' hs'' hU hl hl' hl'' hP hM hO hPl hMl hOl
  go_enter Tryd.func6, Tryd.ntmps6
  go_wp2_with fail
  refine (awake_k _ HU.out).mono ?_
  rintro e w1 ⟨rfl, hb1⟩
  have HB1 := Lib.hid hb1
  clear hb1
  go_wp2_with fail
  refine (C1.out _ (H1.out.on HB1.out)).mono ?_
  rintro e w2 ⟨v2, rfl, ho, hb⟩
  have HB2 := Lib.hid (Cell.bel_trans HB1.out hb)
  obtain ⟨A2, c2, hv, hs⟩ := Sl.of_own ho
  subst hv
  have HP := Lib.hid hs
  clear ho hb hs
  go_wp2_with fail
  refine (C2.out _ (H2.out.on HB2.out)).mono ?_
  rintro e w3 ⟨v3, rfl, ho, hb⟩
  have HB3 := Lib.hid (Cell.bel_trans HB2.out hb)
  have HP := Lib.hid (HP.out.on hb)
  obtain ⟨A3, c3, hv, hs⟩ := Sl.of_own ho
  subst hv
  have HM := Lib.hid hs
  clear ho hb hs
  go_wp2_with fail
  refine (C3.out _ (H3.out.on HB3.out)).mono ?_
  rintro e w4 ⟨v4, rfl, ho, hb⟩
  have HB4 := Lib.hid (Cell.bel_trans HB3.out hb)
  have HP := Lib.hid (HP.out.on hb)
  have HM := Lib.hid (HM.out.on hb)
  obtain ⟨A4, c4, hv, hs⟩ := Sl.of_own ho
  subst hv
  have HO := Lib.hid hs
  clear ho hb hs C1 C2 C3 H1 H2 H3 HB1 HB2 HB3
  go_wp2_with fail
  refine (copy_any P A2 _ c2 _ HP.out (by omega)).mono ?_
  rintro e w5 ⟨v5, rfl, ho, hb⟩
  have HB5 := Lib.hid (Cell.bel_trans HB4.out hb)
  have HP := Lib.hid (HP.out.on hb)
  have HM := Lib.hid (HM.out.on hb)
  have HO := Lib.hid (HO.out.on hb)
  obtain ⟨A5, c5, hv, hs⟩ := Sl.of_own ho
  subst hv
  have HC := Lib.hid hs
  clear ho hb hs HB4
  go_wp2_with fail
  refine (behind_any P A5 _ c5 _ HC.out (by omega)).mono ?_
  rintro e w6 ⟨v6, y, rfl, hbeh, ho, hb⟩
  have HB6 := Lib.hid (Cell.bel_trans HB5.out hb)
  have HP := Lib.hid (HP.out.on hb)
  have HM := Lib.hid (HM.out.on hb)
  have HO := Lib.hid (HO.out.on hb)
  have HC := Lib.hid (HC.out.on hb)
  obtain ⟨A6, c6, hv, hs⟩ := Sl.of_own ho
  subst hv
  have HY := Lib.hid hs
  have HPT := Lib.hid (beh_parts hbeh)
  clear ho hb hs hbeh HB5
  go_wp2_with fail
  refine (same_any P P A5 _ c5 A2 _ c2 _ HC.out HP.out).mono ?_
  rintro e w7 ⟨rfl, rfl⟩
  simp only [decide_true]
  clear HC
  go_wp2_with fail
  go_loop [9, 31] (fun t i => ∃ k : Nat, k ≤ P.length ∧ i = .int .i64 k ∧ t = .bool ((P.take k).all (· == 255))) (fun _ i => P.length - (intOf i).toNat)
  case atStart => exact ⟨0, by omega, rfl, rfl⟩
  case round =>
    obtain ⟨k, hk, rfl, rfl⟩ := hrel
    by_cases hlt : k < P.length
    · obtain ⟨b, hb⟩ : ∃ b, P[k]? = some b := ⟨_, List.getElem?_eq_getElem hlt⟩
      have hlt' : (k : Int) < (P.length : Int) := by omega
      obtain ⟨ad, hA, hAt⟩ := HP.out.at_ (by omega)
      subst hA
      have x0 := u8s_at hAt hb
      have HS : Hid ((P.take (k + 1)).all (· == 255) = ((P.take k).all (· == 255) && (b == 255))) := Lib.hid (by rw [take_succ_of hb, List.all_append]; simp)
      have hbq : ((b.toNat : Int) == 255) = (b == 255) := by
        rw [Bool.eq_iff_iff]
        simp only [beq_iff_eq]
        constructor
        · intro h; exact UInt8.toNat_inj.1 (by show b.toNat = 255; omega)
        · rintro rfl; rfl
      obtain ⟨q, hq⟩ : ∃ q, (b == 255) = q := ⟨_, rfl⟩
      rw [hq] at hbq HS
      cases ht : (P.take k).all (· == 255)
      · rw [ht] at HS
        clear hb hAt hq ht
        go_wp2_with fail
        go_round
        case rel => exact ⟨k + 1, by omega, by go_num, by rw [HS.out]; rfl⟩
        case measure => simp [intOf]; omega
      · rw [ht] at HS
        clear hb hAt hq ht
        go_wp2_with fail
        go_round
        case rel => exact ⟨k + 1, by omega, by go_num, by rw [HS.out]; rfl⟩
        case measure => simp [intOf]; omega
    · obtain rfl : k = P.length := by omega
      have hT : (P.take P.length).all (· == 255) = P.all (· == 255) := by rw [List.take_length]
      rw [hT]
      clear hT
      rcases HPT.out with ⟨hall, hy⟩ | ⟨hall, pre, b, fs, hp, hb2, hf, hy⟩
      · rw [hall]
        subst hy
        clear hall HPT
        go_wp2_with fail
        go_ret
        exact ⟨rfl, HB6.out⟩
      · rw [hall]
        have HIN := Lib.hid (behind_in pre fs O b hb2 hf)
        have HBE := Lib.hid (behind_before pre fs M b hb2)
        rw [← hp, ← hy] at HIN HBE
        clear hall hp hy HPT hf
        go_wp2_with fail
        refine (copy_any P A2 _ c2 _ HP.out (by omega)).mono ?_
        rintro e w8 ⟨v8, rfl, ho8, hb8⟩
        have HM8 := Lib.hid (HM.out.on hb8)
        have HO8 := Lib.hid ho8
        have HB8 := Lib.hid hb8
        have hsz8 := hb8.size
        clear ho8 hb8
        go_wp2_with (at_builtin; go_loud (refine wpl_app_b rfl (.tmp 46) (.tmp 47) rfl w6.heap.size v8 _ _ rfl HO8.out _ _ _ _ rfl HM8.out.lies (u8s_one _) (by omega) hsz8 ?_; intro v9 w9 hown9 hgrow9))
        have hb69 : Below w6.heap.size w6 w9 := HB8.out.trans (hgrow9.below hsz8 fun k hk => (World.ownsRow.lt HO8.out k hk).1)
        have HB9 := Lib.hid (Cell.bel_trans HB6.out hb69)
        have HP := Lib.hid (HP.out.on hb69)
        have HO := Lib.hid (HO.out.on hb69)
        have HY := Lib.hid (HY.out.on hb69)
        obtain ⟨A9, c9, hv, hs⟩ := Sl.of_own hown9
        subst hv
        rw [← u8s_app] at hs
        have HPM := Lib.hid hs
        clear hown9 hgrow9 hb69 hs HO8 HM8 HM HB8 HB6
        refine (less_any (P ++ M) y A9 _ c9 A6 _ c6 _ HPM.out HY.out).mono ?_
        rintro e w10 ⟨rfl, rfl⟩
        rw [HBE.out]
        clear HBE HPM
        cases h1 : bytesLess O P
        · rw [h1] at HIN
          have L1 := Lib.hid (less_any O P A4 _ c4 A2 _ c2 _ HO.out HP.out)
          rw [h1] at L1
          clear h1
          go_wp2_with fail
          refine L1.out.mono ?_
          rintro e w11 ⟨rfl, rfl⟩
          go_wp2_with fail
          refine (less_any O y A4 _ c4 A6 _ c6 _ HO.out HY.out).mono ?_
          rintro e w12 ⟨rfl, rfl⟩
          go_wp2_with fail
          refine (begins_any O P A4 _ c4 A2 _ c2 _ HO.out HP.out).mono ?_
          rintro e w13 ⟨rfl, rfl⟩
          rw [← HIN.out]
          go_wp2_with fail
          go_ret
          exact ⟨by simp, HB9.out⟩
        · rw [h1] at HIN
          have L1 := Lib.hid (less_any O P A4 _ c4 A2 _ c2 _ HO.out HP.out)
          rw [h1] at L1
          clear h1
          go_wp2_with fail
          refine L1.out.mono ?_
          rintro e w11 ⟨rfl, rfl⟩
          go_wp2_with fail
          refine (begins_any O P A4 _ c4 A2 _ c2 _ HO.out HP.out).mono ?_
          rintro e w13 ⟨rfl, rfl⟩
          rw [← HIN.out]
          go_wp2_with fail
          go_ret
          exact ⟨by simp, HB9.out⟩
end Go.Proofs.YtfabcnbblhadnaaDoor.Mem
