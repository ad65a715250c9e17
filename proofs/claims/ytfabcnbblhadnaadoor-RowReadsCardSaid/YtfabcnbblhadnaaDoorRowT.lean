/- row.firstText. -/
import Derived.Test.YtfabcnbblhadnaaDoorRowR
import Derived.Test.YtfabcnbblhadnaaDoorKeyT
namespace Go.Proofs.YtfabcnbblhadnaaDoor.Mem
open Go.RowKit Go.Proofs.YtfabcnbblhadnaaDoor.Nums
open Go.Proofs.YtfabcnbblhadnaaDoor.Cell (U8)
set_option linter.unusedVariables false
set_option linter.unusedSimpArgs false
set_option maxRecDepth 100000
def rText : List UInt8 → Option (V × List UInt8)
  | [] => none
  | b :: r => if b.toNat ≤ r.length then (if (⟨2, 0, str (r.take b.toNat), false⟩ : V).right then some (⟨2, 0, str (r.take b.toNat), false⟩, r.drop b.toNat) else none) else none
theorem rtext_nil (B : Nat) (A : Option Addr) (c : Nat) (w : World) : Calls Tryd.prog 61 #[.slice A 0 c] w (FPost B (rText []) w) := by
  go_enter Tryd.func61, Tryd.ntmps61
  go_wp2_with fail
  exact bodyPost_ret (v := .tuple #[.agg #[.int .u8 0, .int .i64 0, .string ⟨#[]⟩, .bool false], .slice none 0 0, .bool false]) (by simp [results, Tryd.results61, go_sem]) rfl ⟨Cell.bel_alloc _ _, rfl⟩
theorem rtext_short (b : UInt8) (r : List UInt8) (B : Nat) (ad : Addr) (m c : Nat) (w : World) (hB : B ≤ w.heap.size) (hn : m + 1 ≤ 1000000) (hx : Sl w B 1 (some ad) (m + 1) c (u8s (b :: r))) (hs : m < b.toNat) :
    Calls Tryd.prog 61 #[.slice (some ad) (m + 1 : Nat) c] w (FPost B (rText (b :: r)) w) := by
  have hl := len_of hx
  have hrl : r.length = m := by have : (b :: r).length = r.length + 1 := rfl; omega
  obtain ⟨ad', hA, hAt⟩ := hx.at_ (by omega)
  injection hA with hA
  subst hA
  have e : ad.add 0 = ad := by simp [Addr.add]
  have X0 : ∀ o, (w.alloc o).cell? ad = some (.int .u8 (b.toNat : Int)) := fun o => by
    have h := u8s_at hAt (j := 0) (b := b) rfl
    rw [e] at h
    exact ((Cell.bel_alloc w o).cell (World.block_lt_of_cell? w _ h)).trans h
  have x0 := X0 (.cells #[.int .u8 0, .int .i64 0, .string ⟨#[]⟩, .bool false] 43)
  have hz8 := b.toNat_lt
  have h1 : (m : Int) + 1 ≤ (b.toNat : Int) := by omega
  have hne0 : ((m : Int) + 1 == 0) = false := by rw [beq_eq_false_iff_ne]; omega
  have HF : Hid (rText (b :: r) = none) := Lib.hid (if_neg (by omega))
  clear hx hAt hl e hrl X0
  go_enter Tryd.func61, Tryd.ntmps61
  go_wp2_with fail
  rw [HF.out]
  exact bodyPost_ret (v := .tuple #[.agg #[.int .u8 0, .int .i64 0, .string ⟨#[]⟩, .bool false], .slice none 0 0, .bool false]) (by simp [results, Tryd.results61, go_sem]) rfl ⟨Cell.bel_alloc _ _, rfl⟩
theorem rtext_Cn (b : UInt8) (r : List UInt8) (B : Nat) (ad : Addr) (m z c : Nat) (w : World) (hB : B ≤ w.heap.size) (hn : m + z + 1 ≤ 1000000) (hz : b.toNat = z) (hx : Sl w B 1 (some ad) (m + z + 1) c (u8s (b :: r))) (hU : U8 w) (hcz : ¬ c = z + 1) (hr : Cell.rightB 2 0 (str (r.take z)) false = false) :
    Calls Tryd.prog 61 #[.slice (some ad) (m + z + 1 : Nat) c] w (FPost B (rText (b :: r)) w) := by
  have hl := len_of hx
  have hcap := hx.cap
  unfold maxLen at hcap
  have hle := hx.le
  have hz8 := b.toNat_lt
  rw [hz] at hz8
  have hrl : r.length = m + z := by have : (b :: r).length = r.length + 1 := rfl; omega
  obtain ⟨ad', hA, hAt⟩ := hx.at_ (by omega)
  injection hA with hA
  subst hA
  have e : ad.add 0 = ad := by simp [Addr.add]
  have HSL1 : Hid (Slot (w.alloc (.cells #[.int .u8 0, .int .i64 0, .string ⟨#[]⟩, .bool false] 43)) w.heap.size) := Lib.hid (slot_new w)
  have HB1 : Hid (Below w.heap.size w (w.alloc (.cells #[.int .u8 0, .int .i64 0, .string ⟨#[]⟩, .bool false] 43))) := Lib.hid (Cell.bel_alloc _ _)
  have x0 : (w.alloc (.cells #[.int .u8 0, .int .i64 0, .string ⟨#[]⟩, .bool false] 43)).cell? ad = some (.int .u8 (z : Int)) := by
    have h := u8s_at hAt (j := 0) (b := b) rfl
    rw [e, hz] at h
    exact (HB1.out.cell (World.block_lt_of_cell? w _ h)).trans h
  have HU1 := Lib.hid (hU.below HB1.out)
  have hst : (str (r.take z)).size ≤ maxLen := by
    show (r.take z).toArray.size ≤ _
    rw [List.size_toArray, List.length_take]
    unfold maxLen
    omega
  have hT1 : Sl w B 1 (tlA (some ad) c 1) (m + z) (c - 1) (u8s r) := Sl.tl (m := m + z) (k := 1) hx
  have hT2 := hT1.take (k := z) (by omega)
  rw [Nat.mul_one, u8s_take] at hT2
  have hcv := conv_sl (hT2.below (HB1.out.mono hB))
  have HT : Hid (Sl w B 1 (tlA (some ad) c (z + 1)) m (c - (z + 1)) (u8s (r.drop z))) := Lib.hid (Sl.tl (m := m) (k := z + 1) hx)
  have HRL : Hid ((r.drop z).length = m) := Lib.hid (by rw [List.length_drop]; omega)
  obtain ⟨S, hS⟩ : ∃ S, str (r.take z) = S := ⟨_, rfl⟩
  rw [hS] at hcv hst hr
  have HF : Hid (rText (b :: r) = if (⟨2, 0, S, false⟩ : V).right then some (⟨2, 0, S, false⟩, r.drop z) else none) := Lib.hid (by
    rw [← hS, ← hz]
    exact if_pos (by omega))
  have HC := Lib.hid (Cell.cright_all 2 0 S false hst _ (HU1.out.below (Cell.bel_alloc (w.alloc (.cells #[.int .u8 0, .int .i64 0, .string ⟨#[]⟩, .bool false] 43)) (.cells #[.int .u8 2, .int .i64 0, .string S, .bool false] 43))))
  rw [hr] at HC
  have h1 : ¬ (m : Int) + (z : Int) + 1 ≤ (z : Int) := by omega
  have hne0 : ((m : Int) + (z : Int) + 1 == 0) = false := by rw [beq_eq_false_iff_ne]; omega
  have hb1 : (1 : Int) + (z : Int) ≤ c := by omega
  have hb2 : (1 : Int) + (z : Int) ≤ (m : Int) + (z : Int) + 1 := by omega
  have hc1 : ¬ c = 1 := by omega
  rw [show tlA (some ad) c 1 = some ⟨ad.block, ad.off + 1, none⟩ by unfold tlA; rw [if_neg hc1]; rfl] at hcv
  rw [show tlA (some ad) c (z + 1) = some ⟨ad.block, ad.off + (z + 1), none⟩ by unfold tlA; rw [if_neg hcz]; show some (ad.add (z + 1)) = _; rw [add_succ]] at HT
  have HF2 : Hid (rText (b :: r) = none) := Lib.hid (by rw [HF.out]; exact if_neg (by show ¬ Cell.rightB 2 0 S false = true; rw [hr]; decide))
  clear hx hAt hl hU hrl e hT1 hT2 hS hst hz hr HF
  go_enter Tryd.func61, Tryd.ntmps61
  go_wp2_with fail
  refine HC.out.mono ?_
  rintro e w3 ⟨rfl, hb3⟩
  have HSL3 := Lib.hid ((HSL1.out.below (Cell.bel_alloc _ _)).below hb3)
  have HB3 := Lib.hid (Cell.bel_trans HB1.out (Cell.bel_trans (Cell.bel_alloc _ _) hb3))
  clear hb3
  obtain ⟨z0, z1, z2, z3, f0, f1, f2, f3, hlt⟩ := HSL3.out
  go_wp2_with fail
  rw [HF2.out]
  exact bodyPost_ret (v := .tuple #[.agg #[.int .u8 0, .int .i64 0, .string ⟨#[]⟩, .bool false], .slice none 0 0, .bool false]) (by simp [results, Tryd.results61, go_sem, HSL3.out.s0, HSL3.out.s1, HSL3.out.s2, HSL3.out.s3]) rfl ⟨bel_slot HB3.out (Nat.le_refl _) _ _ _ _, rfl⟩
theorem rtext_Cy (b : UInt8) (r : List UInt8) (B : Nat) (ad : Addr) (m z c : Nat) (w : World) (hB : B ≤ w.heap.size) (hn : m + z + 1 ≤ 1000000) (hz : b.toNat = z) (hx : Sl w B 1 (some ad) (m + z + 1) c (u8s (b :: r))) (hU : U8 w) (hcz : ¬ c = z + 1) (hr : Cell.rightB 2 0 (str (r.take z)) false = true) :
    Calls Tryd.prog 61 #[.slice (some ad) (m + z + 1 : Nat) c] w (FPost B (rText (b :: r)) w) := by
  have hl := len_of hx
  have hcap := hx.cap
  unfold maxLen at hcap
  have hle := hx.le
  have hz8 := b.toNat_lt
  rw [hz] at hz8
  have hrl : r.length = m + z := by have : (b :: r).length = r.length + 1 := rfl; omega
  obtain ⟨ad', hA, hAt⟩ := hx.at_ (by omega)
  injection hA with hA
  subst hA
  have e : ad.add 0 = ad := by simp [Addr.add]
  have HSL1 : Hid (Slot (w.alloc (.cells #[.int .u8 0, .int .i64 0, .string ⟨#[]⟩, .bool false] 43)) w.heap.size) := Lib.hid (slot_new w)
  have HB1 : Hid (Below w.heap.size w (w.alloc (.cells #[.int .u8 0, .int .i64 0, .string ⟨#[]⟩, .bool false] 43))) := Lib.hid (Cell.bel_alloc _ _)
  have x0 : (w.alloc (.cells #[.int .u8 0, .int .i64 0, .string ⟨#[]⟩, .bool false] 43)).cell? ad = some (.int .u8 (z : Int)) := by
    have h := u8s_at hAt (j := 0) (b := b) rfl
    rw [e, hz] at h
    exact (HB1.out.cell (World.block_lt_of_cell? w _ h)).trans h
  have HU1 := Lib.hid (hU.below HB1.out)
  have hst : (str (r.take z)).size ≤ maxLen := by
    show (r.take z).toArray.size ≤ _
    rw [List.size_toArray, List.length_take]
    unfold maxLen
    omega
  have hT1 : Sl w B 1 (tlA (some ad) c 1) (m + z) (c - 1) (u8s r) := Sl.tl (m := m + z) (k := 1) hx
  have hT2 := hT1.take (k := z) (by omega)
  rw [Nat.mul_one, u8s_take] at hT2
  have hcv := conv_sl (hT2.below (HB1.out.mono hB))
  have HT : Hid (Sl w B 1 (tlA (some ad) c (z + 1)) m (c - (z + 1)) (u8s (r.drop z))) := Lib.hid (Sl.tl (m := m) (k := z + 1) hx)
  have HRL : Hid ((r.drop z).length = m) := Lib.hid (by rw [List.length_drop]; omega)
  obtain ⟨S, hS⟩ : ∃ S, str (r.take z) = S := ⟨_, rfl⟩
  rw [hS] at hcv hst hr
  have HF : Hid (rText (b :: r) = if (⟨2, 0, S, false⟩ : V).right then some (⟨2, 0, S, false⟩, r.drop z) else none) := Lib.hid (by
    rw [← hS, ← hz]
    exact if_pos (by omega))
  have HC := Lib.hid (Cell.cright_all 2 0 S false hst _ (HU1.out.below (Cell.bel_alloc (w.alloc (.cells #[.int .u8 0, .int .i64 0, .string ⟨#[]⟩, .bool false] 43)) (.cells #[.int .u8 2, .int .i64 0, .string S, .bool false] 43))))
  rw [hr] at HC
  have h1 : ¬ (m : Int) + (z : Int) + 1 ≤ (z : Int) := by omega
  have hne0 : ((m : Int) + (z : Int) + 1 == 0) = false := by rw [beq_eq_false_iff_ne]; omega
  have hb1 : (1 : Int) + (z : Int) ≤ c := by omega
  have hb2 : (1 : Int) + (z : Int) ≤ (m : Int) + (z : Int) + 1 := by omega
  have hc1 : ¬ c = 1 := by omega
  rw [show tlA (some ad) c 1 = some ⟨ad.block, ad.off + 1, none⟩ by unfold tlA; rw [if_neg hc1]; rfl] at hcv
  rw [show tlA (some ad) c (z + 1) = some ⟨ad.block, ad.off + (z + 1), none⟩ by unfold tlA; rw [if_neg hcz]; show some (ad.add (z + 1)) = _; rw [add_succ]] at HT
  have HF2 : Hid (rText (b :: r) = some (⟨2, 0, S, false⟩, r.drop z)) := Lib.hid (by rw [HF.out]; exact if_pos hr)
  have HBX := ValAt.new (w.alloc (.cells #[.int .u8 0, .int .i64 0, .string ⟨#[]⟩, .bool false] 43)) ⟨2, 0, S, false⟩ 43
  have HXX := Lib.hid HBX
  clear HBX
  clear hx hAt hl hU hrl e hT1 hT2 hS hst hz hr HF
  go_enter Tryd.func61, Tryd.ntmps61
  go_wp2_with fail
  refine HC.out.mono ?_
  rintro e w3 ⟨rfl, hb3⟩
  have HSL3 := Lib.hid ((HSL1.out.below (Cell.bel_alloc _ _)).below hb3)
  have HB3 := Lib.hid (Cell.bel_trans HB1.out (Cell.bel_trans (Cell.bel_alloc _ _) hb3))
  obtain ⟨y0, y1, y2, y3⟩ := HXX.out.below (B := ((w.alloc (.cells #[.int .u8 0, .int .i64 0, .string ⟨#[]⟩, .bool false] 43)).alloc (.cells #[.int .u8 2, .int .i64 0, .string S, .bool false] 43)).heap.size) (by simp only [size_alloc]; omega) hb3
  simp only [size_alloc] at y0 y1 y2 y3
  clear hb3
  obtain ⟨z0, z1, z2, z3, f0, f1, f2, f3, hlt⟩ := HSL3.out
  go_wp2_with fail
  go_region
  go_wp2_with fail
  rw [HF2.out]
  exact bodyPost_ret (v := .tuple #[.agg #[.int .u8 2, .int .i64 0, .string S, .bool false], .slice (some ⟨ad.block, ad.off + (z + 1), none⟩) m (c - (z + 1)), .bool true]) (by simp [results, Tryd.results61, go_sem, HSL3.out.s0, HSL3.out.s1, HSL3.out.s2, HSL3.out.s3]; exact ⟨by rw [Nat.add_comm 1 z, add_succ], by omega, by omega⟩) rfl ⟨(bel_slot HB3.out (Nat.le_refl _) _ _ _ _).drew, _, _, _, rfl, HRL.out, HT.out⟩
theorem rtext_Bn (b : UInt8) (r : List UInt8) (B : Nat) (ad : Addr) (m z c : Nat) (w : World) (hB : B ≤ w.heap.size) (hn : m + z + 1 ≤ 1000000) (hz : b.toNat = z) (hx : Sl w B 1 (some ad) (m + z + 1) c (u8s (b :: r))) (hU : U8 w) (hcz : c = z + 1) (hz0 : 0 < z) (hr : Cell.rightB 2 0 (str (r.take z)) false = false) :
    Calls Tryd.prog 61 #[.slice (some ad) (m + z + 1 : Nat) c] w (FPost B (rText (b :: r)) w) := by
  have hl := len_of hx
  have hcap := hx.cap
  unfold maxLen at hcap
  have hle := hx.le
  have hz8 := b.toNat_lt
  rw [hz] at hz8
  have hrl : r.length = m + z := by have : (b :: r).length = r.length + 1 := rfl; omega
  obtain ⟨ad', hA, hAt⟩ := hx.at_ (by omega)
  injection hA with hA
  subst hA
  have e : ad.add 0 = ad := by simp [Addr.add]
  have HSL1 : Hid (Slot (w.alloc (.cells #[.int .u8 0, .int .i64 0, .string ⟨#[]⟩, .bool false] 43)) w.heap.size) := Lib.hid (slot_new w)
  have HB1 : Hid (Below w.heap.size w (w.alloc (.cells #[.int .u8 0, .int .i64 0, .string ⟨#[]⟩, .bool false] 43))) := Lib.hid (Cell.bel_alloc _ _)
  have x0 : (w.alloc (.cells #[.int .u8 0, .int .i64 0, .string ⟨#[]⟩, .bool false] 43)).cell? ad = some (.int .u8 (z : Int)) := by
    have h := u8s_at hAt (j := 0) (b := b) rfl
    rw [e, hz] at h
    exact (HB1.out.cell (World.block_lt_of_cell? w _ h)).trans h
  have HU1 := Lib.hid (hU.below HB1.out)
  have hst : (str (r.take z)).size ≤ maxLen := by
    show (r.take z).toArray.size ≤ _
    rw [List.size_toArray, List.length_take]
    unfold maxLen
    omega
  have hT1 : Sl w B 1 (tlA (some ad) c 1) (m + z) (c - 1) (u8s r) := Sl.tl (m := m + z) (k := 1) hx
  have hT2 := hT1.take (k := z) (by omega)
  rw [Nat.mul_one, u8s_take] at hT2
  have hcv := conv_sl (hT2.below (HB1.out.mono hB))
  have HT : Hid (Sl w B 1 (tlA (some ad) c (z + 1)) m (c - (z + 1)) (u8s (r.drop z))) := Lib.hid (Sl.tl (m := m) (k := z + 1) hx)
  have HRL : Hid ((r.drop z).length = m) := Lib.hid (by rw [List.length_drop]; omega)
  obtain ⟨S, hS⟩ : ∃ S, str (r.take z) = S := ⟨_, rfl⟩
  rw [hS] at hcv hst hr
  have HF : Hid (rText (b :: r) = if (⟨2, 0, S, false⟩ : V).right then some (⟨2, 0, S, false⟩, r.drop z) else none) := Lib.hid (by
    rw [← hS, ← hz]
    exact if_pos (by omega))
  have HC := Lib.hid (Cell.cright_all 2 0 S false hst _ (HU1.out.below (Cell.bel_alloc (w.alloc (.cells #[.int .u8 0, .int .i64 0, .string ⟨#[]⟩, .bool false] 43)) (.cells #[.int .u8 2, .int .i64 0, .string S, .bool false] 43))))
  rw [hr] at HC
  have h1 : ¬ (m : Int) + (z : Int) + 1 ≤ (z : Int) := by omega
  have hne0 : ((m : Int) + (z : Int) + 1 == 0) = false := by rw [beq_eq_false_iff_ne]; omega
  have hb1 : (1 : Int) + (z : Int) ≤ c := by omega
  have hb2 : (1 : Int) + (z : Int) ≤ (m : Int) + (z : Int) + 1 := by omega
  subst hcz
  have hc1 : ¬ z + 1 = 1 := by omega
  obtain rfl : m = 0 := by omega
  have h1' : ¬ (z : Int) + 1 ≤ (z : Int) := by omega
  have hb2' : (1 : Int) + (z : Int) ≤ (z : Int) + 1 := by omega
  have hne0' : ((z : Int) + 1 == 0) = false := by rw [beq_eq_false_iff_ne]; omega
  rw [show tlA (some ad) (z + 1) 1 = some ⟨ad.block, ad.off + 1, none⟩ by unfold tlA; rw [if_neg hc1]; rfl, Nat.add_sub_cancel] at hcv
  rw [show tlA (some ad) (z + 1) (z + 1) = some ad by unfold tlA; rw [if_pos rfl], Nat.sub_self] at HT
  have HF2 : Hid (rText (b :: r) = none) := Lib.hid (by rw [HF.out]; exact if_neg (by show ¬ Cell.rightB 2 0 S false = true; rw [hr]; decide))
  clear hx hAt hl hU hrl e hT1 hT2 hS hst hz hr HF
  go_enter Tryd.func61, Tryd.ntmps61
  go_wp2_with fail
  refine HC.out.mono ?_
  rintro e w3 ⟨rfl, hb3⟩
  have HSL3 := Lib.hid ((HSL1.out.below (Cell.bel_alloc _ _)).below hb3)
  have HB3 := Lib.hid (Cell.bel_trans HB1.out (Cell.bel_trans (Cell.bel_alloc _ _) hb3))
  clear hb3
  obtain ⟨z0, z1, z2, z3, f0, f1, f2, f3, hlt⟩ := HSL3.out
  go_wp2_with fail
  rw [HF2.out]
  exact bodyPost_ret (v := .tuple #[.agg #[.int .u8 0, .int .i64 0, .string ⟨#[]⟩, .bool false], .slice none 0 0, .bool false]) (by simp [results, Tryd.results61, go_sem, HSL3.out.s0, HSL3.out.s1, HSL3.out.s2, HSL3.out.s3]) rfl ⟨bel_slot HB3.out (Nat.le_refl _) _ _ _ _, rfl⟩
theorem rtext_An (b : UInt8) (r : List UInt8) (B : Nat) (ad : Addr) (m z c : Nat) (w : World) (hB : B ≤ w.heap.size) (hn : m + z + 1 ≤ 1000000) (hz : b.toNat = z) (hx : Sl w B 1 (some ad) (m + z + 1) c (u8s (b :: r))) (hU : U8 w) (hc1 : c = 1) (hr : Cell.rightB 2 0 (str (r.take z)) false = false) :
    Calls Tryd.prog 61 #[.slice (some ad) (m + z + 1 : Nat) c] w (FPost B (rText (b :: r)) w) := by
  have hl := len_of hx
  have hcap := hx.cap
  unfold maxLen at hcap
  have hle := hx.le
  have hz8 := b.toNat_lt
  rw [hz] at hz8
  have hrl : r.length = m + z := by have : (b :: r).length = r.length + 1 := rfl; omega
  obtain ⟨ad', hA, hAt⟩ := hx.at_ (by omega)
  injection hA with hA
  subst hA
  have e : ad.add 0 = ad := by simp [Addr.add]
  have HSL1 : Hid (Slot (w.alloc (.cells #[.int .u8 0, .int .i64 0, .string ⟨#[]⟩, .bool false] 43)) w.heap.size) := Lib.hid (slot_new w)
  have HB1 : Hid (Below w.heap.size w (w.alloc (.cells #[.int .u8 0, .int .i64 0, .string ⟨#[]⟩, .bool false] 43))) := Lib.hid (Cell.bel_alloc _ _)
  have x0 : (w.alloc (.cells #[.int .u8 0, .int .i64 0, .string ⟨#[]⟩, .bool false] 43)).cell? ad = some (.int .u8 (z : Int)) := by
    have h := u8s_at hAt (j := 0) (b := b) rfl
    rw [e, hz] at h
    exact (HB1.out.cell (World.block_lt_of_cell? w _ h)).trans h
  have HU1 := Lib.hid (hU.below HB1.out)
  have hst : (str (r.take z)).size ≤ maxLen := by
    show (r.take z).toArray.size ≤ _
    rw [List.size_toArray, List.length_take]
    unfold maxLen
    omega
  have hT1 : Sl w B 1 (tlA (some ad) c 1) (m + z) (c - 1) (u8s r) := Sl.tl (m := m + z) (k := 1) hx
  have hT2 := hT1.take (k := z) (by omega)
  rw [Nat.mul_one, u8s_take] at hT2
  have hcv := conv_sl (hT2.below (HB1.out.mono hB))
  have HT : Hid (Sl w B 1 (tlA (some ad) c (z + 1)) m (c - (z + 1)) (u8s (r.drop z))) := Lib.hid (Sl.tl (m := m) (k := z + 1) hx)
  have HRL : Hid ((r.drop z).length = m) := Lib.hid (by rw [List.length_drop]; omega)
  obtain ⟨S, hS⟩ : ∃ S, str (r.take z) = S := ⟨_, rfl⟩
  rw [hS] at hcv hst hr
  have HF : Hid (rText (b :: r) = if (⟨2, 0, S, false⟩ : V).right then some (⟨2, 0, S, false⟩, r.drop z) else none) := Lib.hid (by
    rw [← hS, ← hz]
    exact if_pos (by omega))
  have HC := Lib.hid (Cell.cright_all 2 0 S false hst _ (HU1.out.below (Cell.bel_alloc (w.alloc (.cells #[.int .u8 0, .int .i64 0, .string ⟨#[]⟩, .bool false] 43)) (.cells #[.int .u8 2, .int .i64 0, .string S, .bool false] 43))))
  rw [hr] at HC
  have h1 : ¬ (m : Int) + (z : Int) + 1 ≤ (z : Int) := by omega
  have hne0 : ((m : Int) + (z : Int) + 1 == 0) = false := by rw [beq_eq_false_iff_ne]; omega
  have hb1 : (1 : Int) + (z : Int) ≤ c := by omega
  have hb2 : (1 : Int) + (z : Int) ≤ (m : Int) + (z : Int) + 1 := by omega
  subst hc1
  obtain rfl : z = 0 := by omega
  obtain rfl : m = 0 := by omega
  rw [show tlA (some ad) 1 1 = some ad from rfl] at hcv
  rw [show tlA (some ad) 1 (0 + 1) = some ad from rfl] at HT
  have HF2 : Hid (rText (b :: r) = none) := Lib.hid (by rw [HF.out]; exact if_neg (by show ¬ Cell.rightB 2 0 S false = true; rw [hr]; decide))
  clear hx hAt hl hU hrl e hT1 hT2 hS hst hz hr HF
  go_enter Tryd.func61, Tryd.ntmps61
  go_wp2_with fail
  refine HC.out.mono ?_
  rintro e w3 ⟨rfl, hb3⟩
  have HSL3 := Lib.hid ((HSL1.out.below (Cell.bel_alloc _ _)).below hb3)
  have HB3 := Lib.hid (Cell.bel_trans HB1.out (Cell.bel_trans (Cell.bel_alloc _ _) hb3))
  clear hb3
  obtain ⟨z0, z1, z2, z3, f0, f1, f2, f3, hlt⟩ := HSL3.out
  go_wp2_with fail
  rw [HF2.out]
  exact bodyPost_ret (v := .tuple #[.agg #[.int .u8 0, .int .i64 0, .string ⟨#[]⟩, .bool false], .slice none 0 0, .bool false]) (by simp [results, Tryd.results61, go_sem, HSL3.out.s0, HSL3.out.s1, HSL3.out.s2, HSL3.out.s3]) rfl ⟨bel_slot HB3.out (Nat.le_refl _) _ _ _ _, rfl⟩
theorem rtext_By (b : UInt8) (r : List UInt8) (B : Nat) (ad : Addr) (m z c : Nat) (w : World) (hB : B ≤ w.heap.size) (hn : m + z + 1 ≤ 1000000) (hz : b.toNat = z) (hx : Sl w B 1 (some ad) (m + z + 1) c (u8s (b :: r))) (hU : U8 w) (hcz : c = z + 1) (hz0 : 0 < z) (hr : Cell.rightB 2 0 (str (r.take z)) false = true) :
    Calls Tryd.prog 61 #[.slice (some ad) (m + z + 1 : Nat) c] w (FPost B (rText (b :: r)) w) := by
  have hl := len_of hx
  have hcap := hx.cap
  unfold maxLen at hcap
  have hle := hx.le
  have hz8 := b.toNat_lt
  rw [hz] at hz8
  have hrl : r.length = m + z := by have : (b :: r).length = r.length + 1 := rfl; omega
  obtain ⟨ad', hA, hAt⟩ := hx.at_ (by omega)
  injection hA with hA
  subst hA
  have e : ad.add 0 = ad := by simp [Addr.add]
  have HSL1 : Hid (Slot (w.alloc (.cells #[.int .u8 0, .int .i64 0, .string ⟨#[]⟩, .bool false] 43)) w.heap.size) := Lib.hid (slot_new w)
  have HB1 : Hid (Below w.heap.size w (w.alloc (.cells #[.int .u8 0, .int .i64 0, .string ⟨#[]⟩, .bool false] 43))) := Lib.hid (Cell.bel_alloc _ _)
  have x0 : (w.alloc (.cells #[.int .u8 0, .int .i64 0, .string ⟨#[]⟩, .bool false] 43)).cell? ad = some (.int .u8 (z : Int)) := by
    have h := u8s_at hAt (j := 0) (b := b) rfl
    rw [e, hz] at h
    exact (HB1.out.cell (World.block_lt_of_cell? w _ h)).trans h
  have HU1 := Lib.hid (hU.below HB1.out)
  have hst : (str (r.take z)).size ≤ maxLen := by
    show (r.take z).toArray.size ≤ _
    rw [List.size_toArray, List.length_take]
    unfold maxLen
    omega
  have hT1 : Sl w B 1 (tlA (some ad) c 1) (m + z) (c - 1) (u8s r) := Sl.tl (m := m + z) (k := 1) hx
  have hT2 := hT1.take (k := z) (by omega)
  rw [Nat.mul_one, u8s_take] at hT2
  have hcv := conv_sl (hT2.below (HB1.out.mono hB))
  have HT : Hid (Sl w B 1 (tlA (some ad) c (z + 1)) m (c - (z + 1)) (u8s (r.drop z))) := Lib.hid (Sl.tl (m := m) (k := z + 1) hx)
  have HRL : Hid ((r.drop z).length = m) := Lib.hid (by rw [List.length_drop]; omega)
  obtain ⟨S, hS⟩ : ∃ S, str (r.take z) = S := ⟨_, rfl⟩
  rw [hS] at hcv hst hr
  have HF : Hid (rText (b :: r) = if (⟨2, 0, S, false⟩ : V).right then some (⟨2, 0, S, false⟩, r.drop z) else none) := Lib.hid (by
    rw [← hS, ← hz]
    exact if_pos (by omega))
  have HC := Lib.hid (Cell.cright_all 2 0 S false hst _ (HU1.out.below (Cell.bel_alloc (w.alloc (.cells #[.int .u8 0, .int .i64 0, .string ⟨#[]⟩, .bool false] 43)) (.cells #[.int .u8 2, .int .i64 0, .string S, .bool false] 43))))
  rw [hr] at HC
  have h1 : ¬ (m : Int) + (z : Int) + 1 ≤ (z : Int) := by omega
  have hne0 : ((m : Int) + (z : Int) + 1 == 0) = false := by rw [beq_eq_false_iff_ne]; omega
  have hb1 : (1 : Int) + (z : Int) ≤ c := by omega
  have hb2 : (1 : Int) + (z : Int) ≤ (m : Int) + (z : Int) + 1 := by omega
  subst hcz
  have hc1 : ¬ z + 1 = 1 := by omega
  obtain rfl : m = 0 := by omega
  have h1' : ¬ (z : Int) + 1 ≤ (z : Int) := by omega
  have hb2' : (1 : Int) + (z : Int) ≤ (z : Int) + 1 := by omega
  have hne0' : ((z : Int) + 1 == 0) = false := by rw [beq_eq_false_iff_ne]; omega
  rw [show tlA (some ad) (z + 1) 1 = some ⟨ad.block, ad.off + 1, none⟩ by unfold tlA; rw [if_neg hc1]; rfl, Nat.add_sub_cancel] at hcv
  rw [show tlA (some ad) (z + 1) (z + 1) = some ad by unfold tlA; rw [if_pos rfl], Nat.sub_self] at HT
  have HF2 : Hid (rText (b :: r) = some (⟨2, 0, S, false⟩, r.drop z)) := Lib.hid (by rw [HF.out]; exact if_pos hr)
  have HBX := ValAt.new (w.alloc (.cells #[.int .u8 0, .int .i64 0, .string ⟨#[]⟩, .bool false] 43)) ⟨2, 0, S, false⟩ 43
  have HXX := Lib.hid HBX
  clear HBX
  clear hx hAt hl hU hrl e hT1 hT2 hS hst hz hr HF
  go_enter Tryd.func61, Tryd.ntmps61
  go_wp2_with fail
  refine HC.out.mono ?_
  rintro e w3 ⟨rfl, hb3⟩
  have HSL3 := Lib.hid ((HSL1.out.below (Cell.bel_alloc _ _)).below hb3)
  have HB3 := Lib.hid (Cell.bel_trans HB1.out (Cell.bel_trans (Cell.bel_alloc _ _) hb3))
  obtain ⟨y0, y1, y2, y3⟩ := HXX.out.below (B := ((w.alloc (.cells #[.int .u8 0, .int .i64 0, .string ⟨#[]⟩, .bool false] 43)).alloc (.cells #[.int .u8 2, .int .i64 0, .string S, .bool false] 43)).heap.size) (by simp only [size_alloc]; omega) hb3
  simp only [size_alloc] at y0 y1 y2 y3
  clear hb3
  obtain ⟨z0, z1, z2, z3, f0, f1, f2, f3, hlt⟩ := HSL3.out
  go_wp2_with fail
  go_region
  go_wp2_with fail
  rw [HF2.out]
  exact bodyPost_ret (v := .tuple #[.agg #[.int .u8 2, .int .i64 0, .string S, .bool false], .slice (some ad) 0 0, .bool true]) (by simp [results, Tryd.results61, go_sem, HSL3.out.s0, HSL3.out.s1, HSL3.out.s2, HSL3.out.s3]; omega) rfl ⟨(bel_slot HB3.out (Nat.le_refl _) _ _ _ _).drew, _, _, _, rfl, HRL.out, HT.out⟩
theorem rtext_Ay (b : UInt8) (r : List UInt8) (B : Nat) (ad : Addr) (m z c : Nat) (w : World) (hB : B ≤ w.heap.size) (hn : m + z + 1 ≤ 1000000) (hz : b.toNat = z) (hx : Sl w B 1 (some ad) (m + z + 1) c (u8s (b :: r))) (hU : U8 w) (hc1 : c = 1) (hr : Cell.rightB 2 0 (str (r.take z)) false = true) :
    Calls Tryd.prog 61 #[.slice (some ad) (m + z + 1 : Nat) c] w (FPost B (rText (b :: r)) w) := by
  have hl := len_of hx
  have hcap := hx.cap
  unfold maxLen at hcap
  have hle := hx.le
  have hz8 := b.toNat_lt
  rw [hz] at hz8
  have hrl : r.length = m + z := by have : (b :: r).length = r.length + 1 := rfl; omega
  obtain ⟨ad', hA, hAt⟩ := hx.at_ (by omega)
  injection hA with hA
  subst hA
  have e : ad.add 0 = ad := by simp [Addr.add]
  have HSL1 : Hid (Slot (w.alloc (.cells #[.int .u8 0, .int .i64 0, .string ⟨#[]⟩, .bool false] 43)) w.heap.size) := Lib.hid (slot_new w)
  have HB1 : Hid (Below w.heap.size w (w.alloc (.cells #[.int .u8 0, .int .i64 0, .string ⟨#[]⟩, .bool false] 43))) := Lib.hid (Cell.bel_alloc _ _)
  have x0 : (w.alloc (.cells #[.int .u8 0, .int .i64 0, .string ⟨#[]⟩, .bool false] 43)).cell? ad = some (.int .u8 (z : Int)) := by
    have h := u8s_at hAt (j := 0) (b := b) rfl
    rw [e, hz] at h
    exact (HB1.out.cell (World.block_lt_of_cell? w _ h)).trans h
  have HU1 := Lib.hid (hU.below HB1.out)
  have hst : (str (r.take z)).size ≤ maxLen := by
    show (r.take z).toArray.size ≤ _
    rw [List.size_toArray, List.length_take]
    unfold maxLen
    omega
  have hT1 : Sl w B 1 (tlA (some ad) c 1) (m + z) (c - 1) (u8s r) := Sl.tl (m := m + z) (k := 1) hx
  have hT2 := hT1.take (k := z) (by omega)
  rw [Nat.mul_one, u8s_take] at hT2
  have hcv := conv_sl (hT2.below (HB1.out.mono hB))
  have HT : Hid (Sl w B 1 (tlA (some ad) c (z + 1)) m (c - (z + 1)) (u8s (r.drop z))) := Lib.hid (Sl.tl (m := m) (k := z + 1) hx)
  have HRL : Hid ((r.drop z).length = m) := Lib.hid (by rw [List.length_drop]; omega)
  obtain ⟨S, hS⟩ : ∃ S, str (r.take z) = S := ⟨_, rfl⟩
  rw [hS] at hcv hst hr
  have HF : Hid (rText (b :: r) = if (⟨2, 0, S, false⟩ : V).right then some (⟨2, 0, S, false⟩, r.drop z) else none) := Lib.hid (by
    rw [← hS, ← hz]
    exact if_pos (by omega))
  have HC := Lib.hid (Cell.cright_all 2 0 S false hst _ (HU1.out.below (Cell.bel_alloc (w.alloc (.cells #[.int .u8 0, .int .i64 0, .string ⟨#[]⟩, .bool false] 43)) (.cells #[.int .u8 2, .int .i64 0, .string S, .bool false] 43))))
  rw [hr] at HC
  have h1 : ¬ (m : Int) + (z : Int) + 1 ≤ (z : Int) := by omega
  have hne0 : ((m : Int) + (z : Int) + 1 == 0) = false := by rw [beq_eq_false_iff_ne]; omega
  have hb1 : (1 : Int) + (z : Int) ≤ c := by omega
  have hb2 : (1 : Int) + (z : Int) ≤ (m : Int) + (z : Int) + 1 := by omega
  subst hc1
  obtain rfl : z = 0 := by omega
  obtain rfl : m = 0 := by omega
  rw [show tlA (some ad) 1 1 = some ad from rfl] at hcv
  rw [show tlA (some ad) 1 (0 + 1) = some ad from rfl] at HT
  have HF2 : Hid (rText (b :: r) = some (⟨2, 0, S, false⟩, r.drop 0)) := Lib.hid (by rw [HF.out]; exact if_pos hr)
  have HBX := ValAt.new (w.alloc (.cells #[.int .u8 0, .int .i64 0, .string ⟨#[]⟩, .bool false] 43)) ⟨2, 0, S, false⟩ 43
  have HXX := Lib.hid HBX
  clear HBX
  clear hx hAt hl hU hrl e hT1 hT2 hS hst hz hr HF
  go_enter Tryd.func61, Tryd.ntmps61
  go_wp2_with fail
  refine HC.out.mono ?_
  rintro e w3 ⟨rfl, hb3⟩
  have HSL3 := Lib.hid ((HSL1.out.below (Cell.bel_alloc _ _)).below hb3)
  have HB3 := Lib.hid (Cell.bel_trans HB1.out (Cell.bel_trans (Cell.bel_alloc _ _) hb3))
  obtain ⟨y0, y1, y2, y3⟩ := HXX.out.below (B := ((w.alloc (.cells #[.int .u8 0, .int .i64 0, .string ⟨#[]⟩, .bool false] 43)).alloc (.cells #[.int .u8 2, .int .i64 0, .string S, .bool false] 43)).heap.size) (by simp only [size_alloc]; omega) hb3
  simp only [size_alloc] at y0 y1 y2 y3
  clear hb3
  obtain ⟨z0, z1, z2, z3, f0, f1, f2, f3, hlt⟩ := HSL3.out
  go_wp2_with fail
  go_region
  go_wp2_with fail
  rw [HF2.out]
  exact bodyPost_ret (v := .tuple #[.agg #[.int .u8 2, .int .i64 0, .string S, .bool false], .slice (some ad) 0 0, .bool true]) (by simp [results, Tryd.results61, go_sem, HSL3.out.s0, HSL3.out.s1, HSL3.out.s2, HSL3.out.s3]) rfl ⟨(bel_slot HB3.out (Nat.le_refl _) _ _ _ _).drew, _, _, _, rfl, HRL.out, HT.out⟩
end Go.Proofs.YtfabcnbblhadnaaDoor.Mem
