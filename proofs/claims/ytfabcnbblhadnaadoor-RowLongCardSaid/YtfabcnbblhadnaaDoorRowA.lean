/- row.addNumber, row.add, row.rightKinds, row.size. -/
import Derived.Test.YtfabcnbblhadnaaDoorBehind
namespace Go.Proofs.YtfabcnbblhadnaaDoor.Mem
open Go.RowKit Go.Proofs.YtfabcnbblhadnaaDoor.Nums
open Go.Proofs.YtfabcnbblhadnaaDoor.Cell (U8)
set_option linter.unusedVariables false
set_option linter.unusedSimpArgs false
set_option maxRecDepth 100000
attribute [local go_sem ↓] Go.wp_at_zero Go.wp_at_succ
/-- a number's eight bytes, the lowest first -/
def leU (U : Nat) : List UInt8 := (List.range 8).map fun k => UInt8.ofNat (U / 2 ^ (8 * k))
theorem leU_len (U : Nat) : (leU U).length = 8 := by simp [leU]
theorem leU_take (U k : Nat) (hk : k < 8) : (leU U).take (k + 1) = (leU U).take k ++ [UInt8.ofNat (U / 2 ^ (8 * k))] := by
  rw [List.take_succ_eq_append_getElem (by rw [leU_len]; exact hk)]
  simp [leU]
theorem leU_cell (U k : Nat) : #[Value.int IntKind.u8 ((U : Int) / 2 ^ (8 * k) % 256)].toList = u8s [UInt8.ofNat (U / 2 ^ (8 * k))] := by
  simp only [u8s, List.map_cons, List.map_nil, ofNat_int]
  congr 2
def wrapped (i : Int) : Nat := (i % 18446744073709551616).toNat
theorem wrapped_eq (i : Int) : IntKind.u64.wrap i = ((wrapped i : Nat) : Int) := by
  rw [IntKind.wrap_u64]
  unfold wrapped
  omega
theorem raddNumber_any (B : Nat) (v : Value) (n : Nat) (xs : List Value) (i : Int) (w : World) (hown : OwnB w B v n xs) (hB : B ≤ w.heap.size) (hn : n ≤ 1000000) :
    Calls Tryd.prog 59 #[v, .int .i64 i] w (Grew B v (n + 8) (xs ++ u8s (leU (wrapped i))) w) := by
  obtain ⟨U, hU⟩ : ∃ U, wrapped i = U := ⟨_, rfl⟩
  have hUb := wrapped_eq i
  rw [hU] at hUb ⊢
  clear hU
  go_enter Tryd.func59, Tryd.ntmps59
  go_wp2_with fail
  have HO := Lib.hid hown
  have HUB := Lib.hid hUb
  clear hUb hown
  go_loopw [0, 6] (fun p c wr => ∃ k : Nat, k ≤ 8 ∧ c = .int .i64 k ∧ OwnB wr B p (n + k) (xs ++ u8s ((leU U).take k)) ∧ Kin w wr v p) (fun _ c _ => 8 - (intOf c).toNat)
  case atStart => exact ⟨0, by omega, rfl, by simpa [u8s] using HO.out, Kin.refl _ _⟩
  case round =>
    obtain ⟨k, hk, rfl, hownr, hbr⟩ := hrel
    have HO2 := Lib.hid hownr
    have HB2 := Lib.hid hbr
    clear hownr hbr
    by_cases hlt : k < 8
    · have hlt' : (k : Int) < 8 := by omega
      have hsz := HB2.out.1.size
      have hub := HUB.out
      go_wp2_with (at_builtin; refine wpl_app_b rfl (.tmp 9) (.tmp 16) rfl B u0 (n + k) _ rfl (HO2.out.alloc _) _ _ 1 _ rfl (lies_lit _ _ _ 1 1 rfl) (one1 _ _) (by omega) (by rw [size_alloc]; omega) ?_; intro v1 w1 hown1 hgrow1)
      go_roundw
      case rel =>
        refine ⟨k + 1, by omega, by go_num, own_eq hown1 (by omega) ?_, HB2.out.trans ((Kin.alloc _ _ _).trans hgrow1)⟩
        rw [leU_cell, leU_take _ _ hlt, u8s_app, List.append_assoc]
      case measure => simp [intOf]; omega
    · obtain rfl : k = 8 := by omega
      have ht : (leU U).take 8 = leU U := List.take_of_length_le (by rw [leU_len]; omega)
      rw [ht] at HO2
      clear ht
      go_wp2_with fail
      go_ret
      exact ⟨_, rfl, HO2.out, HB2.out⟩

/-- a value's bytes in a row: of Null none -/
def rBytes (k i : Int) (s : ByteArray) (b : Bool) : List UInt8 :=
  if k = 1 then leU (wrapped i) else if k = 2 then UInt8.ofNat s.size :: s.data.toList else if k = 3 then (if b then [1] else [0]) else []
def rLen (k : Int) (s : ByteArray) : Nat := if k = 1 then 8 else if k = 2 then 1 + s.size else if k = 3 then 1 else 0
theorem rBytes_len (k i : Int) (s : ByteArray) (b : Bool) : (rBytes k i s b).length = rLen k s := by
  unfold rBytes rLen
  by_cases h1 : k = 1
  · rw [if_pos h1, if_pos h1, leU_len]
  rw [if_neg h1, if_neg h1]
  by_cases h2 : k = 2
  · rw [if_pos h2, if_pos h2, List.length_cons, Array.length_toList]
    show s.size + 1 = _
    omega
  rw [if_neg h2, if_neg h2]
  by_cases h3 : k = 3
  · rw [if_pos h3, if_pos h3]; cases b <;> rfl
  rw [if_neg h3, if_neg h3]; rfl
theorem radd_3 (B : Nat) (v : Value) (n : Nat) (xs : List Value) (i : Int) (s : ByteArray) (b : Bool) (w : World) (hown : OwnB w B v n xs) (hB : B ≤ w.heap.size) (hn : n ≤ 1000000) :
    Calls Tryd.prog 47 #[v, .agg #[.int .u8 3, .int .i64 i, .string s, .bool b]] w (Grew B v (n + 1) (xs ++ u8s (rBytes 3 i s b)) w) := by
  have HO := Lib.hid hown
  clear hown
  cases b
  · go_enter Tryd.func47, Tryd.ntmps47
    go_wp2_with (at_builtin; refine wpl_app_b rfl (.tmp 30) (.tmp 31) rfl B v n xs rfl ((HO.out.alloc _).alloc _) _ _ 1 _ rfl (lies_at _ _ _ 1 1 (w.heap.size + 1) (size_alloc _ _) rfl) (one1 _ _) (by omega) (by rw [size_alloc, size_alloc]; omega) ?_; intro v1 w1 hown1 hgrow1)
    go_ret
    exact ⟨_, rfl, hown1, grew_one hgrow1⟩
  · go_enter Tryd.func47, Tryd.ntmps47
    go_wp2_with (at_builtin; refine wpl_app_b rfl (.tmp 27) (.tmp 28) rfl B v n xs rfl ((HO.out.alloc _).alloc _) _ _ 1 _ rfl (lies_at _ _ _ 1 1 (w.heap.size + 1) (size_alloc _ _) rfl) (one1 _ _) (by omega) (by rw [size_alloc, size_alloc]; omega) ?_; intro v1 w1 hown1 hgrow1)
    go_ret
    exact ⟨_, rfl, hown1, grew_one hgrow1⟩
theorem radd_1 (B : Nat) (v : Value) (n : Nat) (xs : List Value) (i : Int) (s : ByteArray) (b : Bool) (w : World) (hown : OwnB w B v n xs) (hB : B ≤ w.heap.size) (hn : n ≤ 1000000) :
    Calls Tryd.prog 47 #[v, .agg #[.int .u8 1, .int .i64 i, .string s, .bool b]] w (Grew B v (n + 8) (xs ++ u8s (rBytes 1 i s b)) w) := by
  have HO := Lib.hid hown
  clear hown
  go_enter Tryd.func47, Tryd.ntmps47
  go_wp2_with fail
  refine (raddNumber_any B v n xs i _ (HO.out.alloc _) (by rw [size_alloc]; omega) hn).mono ?_
  rintro e w2 ⟨v2, rfl, hown2, hk2⟩
  have HO2 := Lib.hid hown2
  have HK2 := Lib.hid ((Kin.alloc _ _ _).trans hk2)
  clear hown2 hk2
  go_wp2_with fail
  go_ret
  exact ⟨_, rfl, HO2.out, HK2.out⟩
theorem radd_2 (B : Nat) (v : Value) (n : Nat) (xs : List Value) (i : Int) (s : ByteArray) (b : Bool) (w : World) (hown : OwnB w B v n xs) (hB : B ≤ w.heap.size) (hn : n ≤ 1000) (hs : s.size ≤ 200) :
    Calls Tryd.prog 47 #[v, .agg #[.int .u8 2, .int .i64 i, .string s, .bool b]] w (Grew B v (n + (1 + s.size)) (xs ++ u8s (rBytes 2 i s b)) w) := by
  obtain ⟨W, hW⟩ : ∃ W, w.alloc (.cells #[.int .u8 2, .int .i64 i, .string s, .bool b] 43) = W := ⟨_, rfl⟩
  have hOW : Hid (OwnB W B v n xs) := Lib.hid (by rw [← hW]; exact hown.alloc _)
  have x1 : Hid (W.cell? ⟨w.heap.size, 2, none⟩ = some (.string s)) := Lib.hid (by rw [← hW]; exact (at_new w _ _).2 2 _ rfl)
  have hWs : Hid (W.heap.size = w.heap.size + 1) := Lib.hid (by rw [← hW]; exact size_alloc _ _)
  have HBW : Hid (Kin w W v v) := Lib.hid (by rw [← hW]; exact Kin.alloc _ _ _)
  have hne : Hid (v.ownBlock ≠ some w.heap.size) := Lib.hid (by intro e; have := (World.ownsRow.lt hown _ e).2; omega)
  have HW := Lib.hid hW
  have hs' : (s.size : Int) ≤ 200 := by omega
  clear hW hown
  go_enter Tryd.func47, Tryd.ntmps47
  go_wp2_with fail
  rw [HW.out]
  have x1 := x1.out
  have hWz : B ≤ W.heap.size := by have := hWs.out; omega
  go_region_held3 (fun w' => w'.cell? ⟨w.heap.size, 2, none⟩ = some (.string s)) (first | go_keep | exact hgrow1.cell (by assumption) hne.out | exact hgrow2.cell (by assumption) hne2)
    (first
      | (refine step_app_s (by rfl) _ _ (by rfl) B v1 (n + 1) _ (by rfl) hown1 s (by rfl) (by omega) hsz1 ?_; intro v2 w2 hown2 hgrow2)
      | (refine step_app_b (by rfl) _ _ (by rfl) B v n xs (by rfl) (hOW.out.alloc _) _ _ 1 _ (by rfl) (lies_lit _ _ _ 1 1 (by rfl)) (one1 _ _) (by omega) (by rw [sz_ad]; omega) ?_; intro v1 w1 hown1 hgrow1; have hsz1 : B ≤ w1.heap.size := Nat.le_trans hWz (Nat.le_trans (by rw [sz_ad]; omega) hgrow1.size); have hne2 : v1.ownBlock ≠ some w.heap.size := kin_ne hgrow1 hne.out (by rw [sz_ad, hWs.out]; omega)))
  have HK : Hid (Kin w w2 v v2) := Lib.hid (((HBW.out.trans (Kin.alloc _ _ _).drew).trans hgrow1).trans hgrow2)
  have HO2 := Lib.hid hown2
  clear hown1 hown2 hgrow1 hgrow2 hne2 hsz1
  go_wp2_with fail
  go_ret
  refine ⟨_, rfl, own_eq HO2.out (by omega) ?_, HK.out⟩
  have e : IntKind.u8.wrap (s.size : Int) = (((UInt8.ofNat s.size).toNat : Nat) : Int) := by
    rw [ofNat_int]
    simp [IntKind.wrap, IntKind.bits, IntKind.signed]
  rw [List.append_assoc, e]
  rfl
theorem radd_any (B : Nat) (v : Value) (n : Nat) (xs : List Value) (k i : Int) (s : ByteArray) (b : Bool) (w : World) (hk : k = 1 ∨ k = 2 ∨ k = 3) (hown : OwnB w B v n xs) (hB : B ≤ w.heap.size) (hn : n ≤ 1000) (hs : s.size ≤ 200) :
    Calls Tryd.prog 47 #[v, .agg #[.int .u8 k, .int .i64 i, .string s, .bool b]] w (Grew B v (n + rLen k s) (xs ++ u8s (rBytes k i s b)) w) := by
  rcases hk with rfl | rfl | rfl
  · exact radd_1 B v n xs i s b w hown hB (by omega)
  · exact radd_2 B v n xs i s b w hown hB hn hs
  · exact radd_3 B v n xs i s b w hown hB (by omega)

/-- may this be a column's kind; may these be a table's -/
def kOk (b : UInt8) : Bool := b == 1 || b == 2 || b == 3
def ksOk (ks : List UInt8) : Bool := decide (1 ≤ ks.length) && decide (ks.length ≤ 8) && ks.all kOk
theorem b_eq (b c : UInt8) : ((b.toNat : Int) == (c.toNat : Int)) = (b == c) := by
  rw [Bool.eq_iff_iff]
  simp only [beq_iff_eq]
  constructor
  · intro h; exact UInt8.toNat_inj.1 (by omega)
  · rintro rfl; rfl
theorem kinds_any (ks : List UInt8) (A : Option Addr) (n c : Nat) (w : World) (hx : Sl w w.heap.size 1 A n c (u8s ks)) :
    Calls Tryd.prog 49 #[.slice A n c] w fun e w' => e = .returned (.bool (ksOk ks)) ∧ w = w' := by
  have hl : ks.length = n := by have := hx.len; rw [u8s_len] at this; omega
  have hcap := hx.cap
  unfold maxLen at hcap
  have hle := hx.le
  by_cases h1 : n < 1
  · have h1' : (n : Int) < 1 := by omega
    have HR : Hid (ksOk ks = false) := Lib.hid (by unfold ksOk; rw [hl, decide_eq_false (by omega)]; rfl)
    clear hx hl
    go_enter Tryd.func49, Tryd.ntmps49
    go_wp2_with fail
    go_ret
    exact ⟨by rw [HR.out]; rfl, rfl⟩
  by_cases h8 : 8 < n
  · have h1' : ¬ (n : Int) < 1 := by omega
    have h8' : (8 : Int) < n := by omega
    have HR : Hid (ksOk ks = false) := Lib.hid (by unfold ksOk; rw [hl, decide_eq_false (show ¬ n ≤ 8 by omega)]; simp)
    clear hx hl
    go_enter Tryd.func49, Tryd.ntmps49
    go_wp2_with fail
    go_ret
    exact ⟨by rw [HR.out]; rfl, rfl⟩
  have h1' : ¬ (n : Int) < 1 := by omega
  have h8' : ¬ (8 : Int) < n := by omega
  have HR : Hid (ksOk ks = ks.all kOk) := Lib.hid (by unfold ksOk; rw [hl, decide_eq_true (show 1 ≤ n by omega), decide_eq_true (show n ≤ 8 by omega)]; rfl)
  have HL := Lib.hid hl
  have HX := Lib.hid hx
  clear hx hl
  go_enter Tryd.func49, Tryd.ntmps49
  go_wp2_with fail
  go_loop [15] (fun c => ∃ k : Nat, k ≤ n ∧ c = .int .i64 k ∧ (ks.take k).all kOk = true) (fun c => n - (intOf c).toNat)
  case atStart => exact ⟨0, by omega, rfl, rfl⟩
  case round =>
    obtain ⟨k, hk, rfl, hall⟩ := hrel
    have HA := Lib.hid hall
    clear hall
    by_cases hlt : k < n
    · have hlt' : (k : Int) < n := by omega
      obtain ⟨b, hb⟩ : ∃ b, ks[k]? = some b := ⟨_, List.getElem?_eq_getElem (by rw [HL.out]; exact hlt)⟩
      obtain ⟨ad, hA, hAt⟩ := HX.out.at_ (by omega)
      subst hA
      have x0 := u8s_at hAt hb
      have Hb := Lib.hid hb
      have b1 : ((b.toNat : Int) == 1) = (b == 1) := b_eq b 1
      have b2 : ((b.toNat : Int) == 2) = (b == 2) := b_eq b 2
      have b3 : ((b.toNat : Int) == 3) = (b == 3) := b_eq b 3
      clear hAt hb
      cases h1 : b == 1
      · cases h2 : b == 2
        · cases h3 : b == 3
          · rw [h1] at b1
            rw [h2] at b2
            rw [h3] at b3
            have HF : Hid (ks.all kOk = false) := Lib.hid (by
              rw [List.all_eq_false]
              exact ⟨b, List.mem_of_getElem? Hb.out, by unfold kOk; rw [h1, h2, h3]; decide⟩)
            clear h1 h2 h3
            go_wp2_with fail
            go_ret
            exact ⟨by rw [HR.out, HF.out]; rfl, rfl⟩
          · rw [h1] at b1
            rw [h2] at b2
            rw [h3] at b3
            have HT : Hid (kOk b = true) := Lib.hid (by unfold kOk; rw [h1, h2, h3]; rfl)
            clear h1 h2 h3
            go_wp2_with fail
            go_round
            case rel => exact ⟨k + 1, by omega, by go_num, by rw [take_succ_of Hb.out, List.all_append, HA.out]; simp [HT.out]⟩
            case measure => simp [intOf]; omega
        · rw [h1] at b1
          rw [h2] at b2
          have HT : Hid (kOk b = true) := Lib.hid (by unfold kOk; rw [h1, h2]; rfl)
          clear h1 h2 b3
          go_wp2_with fail
          go_round
          case rel => exact ⟨k + 1, by omega, by go_num, by rw [take_succ_of Hb.out, List.all_append, HA.out]; simp [HT.out]⟩
          case measure => simp [intOf]; omega
      · rw [h1] at b1
        have HT : Hid (kOk b = true) := Lib.hid (by unfold kOk; rw [h1]; rfl)
        clear h1 b2 b3
        go_wp2_with fail
        go_round
        case rel => exact ⟨k + 1, by omega, by go_num, by rw [take_succ_of Hb.out, List.all_append, HA.out]; simp [HT.out]⟩
        case measure => simp [intOf]; omega
    · obtain rfl : k = n := by omega
      have ht : ks.take k = ks := List.take_of_length_le (by rw [HL.out]; omega)
      rw [ht] at HA
      clear ht
      go_wp2_with fail
      go_ret
      exact ⟨by rw [HR.out, HA.out]; rfl, rfl⟩

/-- how many bytes a row has -/
def rSize (l : List V) : Nat := 1 + (l.map fun v => rLen v.k v.s).sum
theorem rLen_le {v : V} (h : v.right = true) : rLen v.k v.s ≤ 61 := by
  have := right_kind h
  unfold rLen
  split
  · omega
  split
  · omega
  split <;> omega
theorem rSize_snoc (l : List V) (v : V) : rSize (l ++ [v]) = rSize l + rLen v.k v.s := by simp [rSize]; omega
theorem rSize_le (l : List V) (h : l.all V.right = true) : rSize l ≤ 1 + l.length * 61 := by
  unfold rSize
  induction l with
  | nil => simp
  | cons v l ih =>
    rw [List.all_cons, Bool.and_eq_true] at h
    have := ih h.2
    have := rLen_le h.1
    simp only [List.map_cons, List.sum_cons, List.length_cons]
    omega
theorem size_any (l : List V) (A : Option Addr) (n c : Nat) (w : World) (hn : l.length = n) (hn8 : n ≤ 8) (hr : l.all V.right = true) (hx : Sl w w.heap.size 4 A n c (vals l)) :
    Calls Tryd.prog 46 #[.slice A n c] w fun e w' => e = .returned (.int .i64 (rSize l : Nat)) ∧ Below w.heap.size w w' := by
  have HN := Lib.hid hn
  have HR := Lib.hid hr
  have HX := Lib.hid hx
  clear hn hr hx
  go_enter Tryd.func46, Tryd.ntmps46
  go_wp2_with fail
  go_loopw [3, 8] (fun t i wr => ∃ k : Nat, k ≤ n ∧ i = .int .i64 k ∧ t = .int .i64 (rSize (l.take k) : Nat) ∧ Below w.heap.size w wr) (fun _ i _ => n - (intOf i).toNat)
  case atStart => exact ⟨0, by omega, rfl, rfl, Below.refl _ _⟩
  case round =>
    obtain ⟨k, hk, rfl, rfl, hbr⟩ := hrel
    have HBR := Lib.hid hbr
    clear hbr
    by_cases hlt : k < n
    · have hlt' : (k : Int) < n := by omega
      obtain ⟨v, hv⟩ : ∃ v, l[k]? = some v := ⟨_, List.getElem?_eq_getElem (by rw [HN.out]; exact hlt)⟩
      obtain ⟨ad, hA, hAt⟩ := HX.out.at_ (by omega)
      subst hA
      obtain ⟨x0, x1, x2, x3⟩ := (hAt.below HBR.out).val hv
      have hvr := (List.all_eq_true.1 HR.out) v (List.mem_of_getElem? hv)
      have hvk := right_kind hvr
      have HV := Lib.hid hv
      have hsz : rSize (l.take k) ≤ 1 + 8 * 61 := by
        have h1 := rSize_le (l.take k) (by rw [List.all_eq_true]; intro x hx; exact (List.all_eq_true.1 HR.out) x (List.mem_of_mem_take hx))
        have h2 : (l.take k).length ≤ 8 := by rw [List.length_take]; omega
        have h3 := Nat.mul_le_mul_right 61 h2
        omega
      have HS : Hid (rSize (l.take (k + 1)) = rSize (l.take k) + rLen v.k v.s) := Lib.hid (by rw [take_succ_of hv, rSize_snoc])
      obtain ⟨vk, vi, vs, vb⟩ := v
      obtain ⟨hvk1, hvs⟩ := hvk
      change vk = 0 ∨ vk = 1 ∨ vk = 2 ∨ vk = 3 at hvk1
      change vs.size ≤ 60 at hvs
      have hvs' : (vs.size : Int) ≤ 60 := by omega
      have hsz' : ((rSize (l.take k) : Nat) : Int) ≤ 1000 := by omega
      generalize rSize (l.take k) = Z at *
      clear hv hAt hvr hsz
      rcases hvk1 with rfl | rfl | rfl | rfl
      all_goals
        go_wp2_with fail
        go_roundw
        case rel =>
          refine ⟨k + 1, by omega, by go_num, ?_, Cell.bel_trans HBR.out (Cell.bel_alloc _ _)⟩
          rw [HS.out]
          unfold rLen
          simp
          try omega
        case measure => simp [intOf]; omega
    · obtain rfl : k = n := by omega
      have ht : l.take k = l := List.take_of_length_le (by rw [HN.out]; omega)
      rw [ht]
      clear ht
      go_wp2_with fail
      go_ret
      exact ⟨rfl, HBR.out⟩
end Go.Proofs.YtfabcnbblhadnaaDoor.Mem
