/- key.first. -/
import Derived.Test.YtfabcnbblhadnaaDoorKeyT
namespace Go.Proofs.YtfabcnbblhadnaaDoor.Mem
open Go.RowKit Go.Proofs.YtfabcnbblhadnaaDoor.Nums
open Go.Proofs.YtfabcnbblhadnaaDoor.Cell (U8)
set_option linter.unusedVariables false
set_option linter.unusedSimpArgs false
set_option maxRecDepth 100000
attribute [local go_sem high] sliced_1
theorem sl_back {w w1 : World} {B sz n c : Nat} {A : Option Addr} {xs : List Value} (hb : Below w.heap.size w w1) (hB : B ≤ w.heap.size) (h : Sl w1 B sz A n c xs) : Sl w B sz A n c xs :=
  ⟨h.len, h.le, h.cap, h.nil, fun hn => by
    obtain ⟨ad, e, ha⟩ := h.at_ hn
    exact ⟨ad, e, ha.keep fun p hp => (hb.cell (Nat.lt_of_lt_of_le hp hB)).symm⟩⟩
def fMark (k : Nat) (r : List UInt8) : Option (V × List UInt8) :=
  if k = 1 then some (⟨0, 0, ⟨#[]⟩, false⟩, r) else if k = 2 then fBool r else if k = 3 then fNum r else if k = 4 then fText r else none
def fFirst : List UInt8 → Option (V × List UInt8)
  | [] => none
  | b :: r => fMark b.toNat r
theorem first_null1 (b : UInt8) (r : List UInt8) (B : Nat) (ad : Addr) (m c : Nat) (w : World) (hB : B ≤ w.heap.size) (hn : m + 1 ≤ 1000000) (hx : Sl w B 1 (some ad) (m + 1) c (u8s (b :: r))) (hU : U8 w) (hc1 : c = 1) (hm : (b.toNat : Int) = 1) :
    Calls Tryd.prog 40 #[.slice (some ad) (m + 1 : Nat) c] w (FPost B (fFirst (b :: r)) w) := by
  have hl := len_of hx
  have hcap := hx.cap
  unfold maxLen at hcap
  have hle := hx.le
  have hrl : r.length = m := by have : (b :: r).length = r.length + 1 := rfl; omega
  obtain ⟨ad', hA, hAt⟩ := hx.at_ (by omega)
  injection hA with hA
  subst hA
  have e : ad.add 0 = ad := by simp [Addr.add]
  have X0 : ∀ o, (w.alloc o).cell? ad = some (.int .u8 (b.toNat : Int)) := fun o => by
    have h := u8s_at hAt (j := 0) (b := b) rfl
    rw [e] at h
    exact ((Cell.bel_alloc w o).cell (World.block_lt_of_cell? w _ h)).trans h
  have x0 := X0 (.cells #[.int .u8 0, .int .i64 0, .string ⟨#[]⟩, .bool false] 43)
  have HT := Lib.hid hx.tl
  have HRL := Lib.hid hrl
  have HU := Lib.hid hU
  have HF : Hid (fFirst (b :: r) = some (⟨0, 0, ⟨#[]⟩, false⟩, r)) := Lib.hid (by
    show fMark b.toNat r = _
    rw [show b.toNat = 1 by omega]
    rfl)
  rw [hm] at x0
  clear hm
  clear hx hAt hl e hrl hU X0
  subst hc1
  obtain rfl : m = 0 := by omega
  have et : tlA (some ad) 1 1 = some ad := rfl
  rw [et] at HT
  clear et
  go_enter Tryd.func40, Tryd.ntmps40
  go_wp2_with fail
  go_region
  go_wp2_with fail
  rw [HF.out]
  exact bodyPost_ret (v := .tuple #[.agg #[.int .u8 0, .int .i64 0, .string ⟨#[]⟩, .bool false], .slice (some ad) 0 (0), .bool true]) (by simp [results, Tryd.results40, go_sem]) rfl ⟨by first | exact (Cell.bel_alloc _ _).drew | exact bel_slot (Cell.bel_alloc _ _).drew (Nat.le_refl _) _ _ _ _, _, _, _, rfl, HRL.out, HT.out⟩
theorem first_null (b : UInt8) (r : List UInt8) (B : Nat) (ad : Addr) (m c : Nat) (w : World) (hB : B ≤ w.heap.size) (hn : m + 1 ≤ 1000000) (hx : Sl w B 1 (some ad) (m + 1) c (u8s (b :: r))) (hU : U8 w) (hc1 : ¬ c = 1) (hm : (b.toNat : Int) = 1) :
    Calls Tryd.prog 40 #[.slice (some ad) (m + 1 : Nat) c] w (FPost B (fFirst (b :: r)) w) := by
  have hl := len_of hx
  have hcap := hx.cap
  unfold maxLen at hcap
  have hle := hx.le
  have hrl : r.length = m := by have : (b :: r).length = r.length + 1 := rfl; omega
  obtain ⟨ad', hA, hAt⟩ := hx.at_ (by omega)
  injection hA with hA
  subst hA
  have e : ad.add 0 = ad := by simp [Addr.add]
  have X0 : ∀ o, (w.alloc o).cell? ad = some (.int .u8 (b.toNat : Int)) := fun o => by
    have h := u8s_at hAt (j := 0) (b := b) rfl
    rw [e] at h
    exact ((Cell.bel_alloc w o).cell (World.block_lt_of_cell? w _ h)).trans h
  have x0 := X0 (.cells #[.int .u8 0, .int .i64 0, .string ⟨#[]⟩, .bool false] 43)
  have HT := Lib.hid hx.tl
  have HRL := Lib.hid hrl
  have HU := Lib.hid hU
  have HF : Hid (fFirst (b :: r) = some (⟨0, 0, ⟨#[]⟩, false⟩, r)) := Lib.hid (by
    show fMark b.toNat r = _
    rw [show b.toNat = 1 by omega]
    rfl)
  rw [hm] at x0
  clear hm
  clear hx hAt hl e hrl hU X0
  have et : tlA (some ad) c 1 = some ⟨ad.block, ad.off + 1, none⟩ := by unfold tlA; rw [if_neg hc1]; rfl
  rw [et] at HT
  clear et
  go_enter Tryd.func40, Tryd.ntmps40
  go_wp2_with fail
  go_region
  go_wp2_with fail
  rw [HF.out]
  exact bodyPost_ret (v := .tuple #[.agg #[.int .u8 0, .int .i64 0, .string ⟨#[]⟩, .bool false], .slice (some ⟨ad.block, ad.off + 1, none⟩) m (c - 1), .bool true]) (by simp [results, Tryd.results40, go_sem]) rfl ⟨by first | exact (Cell.bel_alloc _ _).drew | exact bel_slot (Cell.bel_alloc _ _).drew (Nat.le_refl _) _ _ _ _, _, _, _, rfl, HRL.out, HT.out⟩
theorem first_no1 (b : UInt8) (r : List UInt8) (B : Nat) (ad : Addr) (m c : Nat) (w : World) (hB : B ≤ w.heap.size) (hn : m + 1 ≤ 1000000) (hx : Sl w B 1 (some ad) (m + 1) c (u8s (b :: r))) (hU : U8 w) (hc1 : c = 1) (e1 : ((b.toNat : Int) == 1) = false) (e2 : ((b.toNat : Int) == 2) = false) (e3 : ((b.toNat : Int) == 3) = false) (e4 : ((b.toNat : Int) == 4) = false) :
    Calls Tryd.prog 40 #[.slice (some ad) (m + 1 : Nat) c] w (FPost B (fFirst (b :: r)) w) := by
  have hl := len_of hx
  have hcap := hx.cap
  unfold maxLen at hcap
  have hle := hx.le
  have hrl : r.length = m := by have : (b :: r).length = r.length + 1 := rfl; omega
  obtain ⟨ad', hA, hAt⟩ := hx.at_ (by omega)
  injection hA with hA
  subst hA
  have e : ad.add 0 = ad := by simp [Addr.add]
  have X0 : ∀ o, (w.alloc o).cell? ad = some (.int .u8 (b.toNat : Int)) := fun o => by
    have h := u8s_at hAt (j := 0) (b := b) rfl
    rw [e] at h
    exact ((Cell.bel_alloc w o).cell (World.block_lt_of_cell? w _ h)).trans h
  have x0 := X0 (.cells #[.int .u8 0, .int .i64 0, .string ⟨#[]⟩, .bool false] 43)
  have HT := Lib.hid hx.tl
  have HRL := Lib.hid hrl
  have HU := Lib.hid hU
  have HF : Hid (fFirst (b :: r) = none) := Lib.hid (by
    show fMark b.toNat r = _
    rw [beq_eq_false_iff_ne] at e1 e2 e3 e4
    unfold fMark
    rw [if_neg (by omega), if_neg (by omega), if_neg (by omega), if_neg (by omega)])
  clear hx hAt hl e hrl hU X0
  subst hc1
  obtain rfl : m = 0 := by omega
  have et : tlA (some ad) 1 1 = some ad := rfl
  rw [et] at HT
  clear et
  go_enter Tryd.func40, Tryd.ntmps40
  go_wp2_with fail
  go_region
  go_wp2_with fail
  rw [HF.out]
  exact bodyPost_ret (v := .tuple #[.agg #[.int .u8 0, .int .i64 0, .string ⟨#[]⟩, .bool false], .slice none 0 0, .bool false]) (by simp [results, Tryd.results40, go_sem]) rfl ⟨by first | exact (Cell.bel_alloc _ _).drew | exact bel_slot (Cell.bel_alloc _ _).drew (Nat.le_refl _) _ _ _ _, rfl⟩
theorem first_no (b : UInt8) (r : List UInt8) (B : Nat) (ad : Addr) (m c : Nat) (w : World) (hB : B ≤ w.heap.size) (hn : m + 1 ≤ 1000000) (hx : Sl w B 1 (some ad) (m + 1) c (u8s (b :: r))) (hU : U8 w) (hc1 : ¬ c = 1) (e1 : ((b.toNat : Int) == 1) = false) (e2 : ((b.toNat : Int) == 2) = false) (e3 : ((b.toNat : Int) == 3) = false) (e4 : ((b.toNat : Int) == 4) = false) :
    Calls Tryd.prog 40 #[.slice (some ad) (m + 1 : Nat) c] w (FPost B (fFirst (b :: r)) w) := by
  have hl := len_of hx
  have hcap := hx.cap
  unfold maxLen at hcap
  have hle := hx.le
  have hrl : r.length = m := by have : (b :: r).length = r.length + 1 := rfl; omega
  obtain ⟨ad', hA, hAt⟩ := hx.at_ (by omega)
  injection hA with hA
  subst hA
  have e : ad.add 0 = ad := by simp [Addr.add]
  have X0 : ∀ o, (w.alloc o).cell? ad = some (.int .u8 (b.toNat : Int)) := fun o => by
    have h := u8s_at hAt (j := 0) (b := b) rfl
    rw [e] at h
    exact ((Cell.bel_alloc w o).cell (World.block_lt_of_cell? w _ h)).trans h
  have x0 := X0 (.cells #[.int .u8 0, .int .i64 0, .string ⟨#[]⟩, .bool false] 43)
  have HT := Lib.hid hx.tl
  have HRL := Lib.hid hrl
  have HU := Lib.hid hU
  have HF : Hid (fFirst (b :: r) = none) := Lib.hid (by
    show fMark b.toNat r = _
    rw [beq_eq_false_iff_ne] at e1 e2 e3 e4
    unfold fMark
    rw [if_neg (by omega), if_neg (by omega), if_neg (by omega), if_neg (by omega)])
  clear hx hAt hl e hrl hU X0
  have et : tlA (some ad) c 1 = some ⟨ad.block, ad.off + 1, none⟩ := by unfold tlA; rw [if_neg hc1]; rfl
  rw [et] at HT
  clear et
  go_enter Tryd.func40, Tryd.ntmps40
  go_wp2_with fail
  go_region
  go_wp2_with fail
  rw [HF.out]
  exact bodyPost_ret (v := .tuple #[.agg #[.int .u8 0, .int .i64 0, .string ⟨#[]⟩, .bool false], .slice none 0 0, .bool false]) (by simp [results, Tryd.results40, go_sem]) rfl ⟨by first | exact (Cell.bel_alloc _ _).drew | exact bel_slot (Cell.bel_alloc _ _).drew (Nat.le_refl _) _ _ _ _, rfl⟩
theorem first_bool1 (b : UInt8) (r : List UInt8) (B : Nat) (ad : Addr) (m c : Nat) (w : World) (hB : B ≤ w.heap.size) (hn : m + 1 ≤ 1000000) (hx : Sl w B 1 (some ad) (m + 1) c (u8s (b :: r))) (hU : U8 w) (hc1 : c = 1) (hm : (b.toNat : Int) = 2) :
    Calls Tryd.prog 40 #[.slice (some ad) (m + 1 : Nat) c] w (FPost B (fFirst (b :: r)) w) := by
  have hl := len_of hx
  have hcap := hx.cap
  unfold maxLen at hcap
  have hle := hx.le
  have hrl : r.length = m := by have : (b :: r).length = r.length + 1 := rfl; omega
  obtain ⟨ad', hA, hAt⟩ := hx.at_ (by omega)
  injection hA with hA
  subst hA
  have e : ad.add 0 = ad := by simp [Addr.add]
  have X0 : ∀ o, (w.alloc o).cell? ad = some (.int .u8 (b.toNat : Int)) := fun o => by
    have h := u8s_at hAt (j := 0) (b := b) rfl
    rw [e] at h
    exact ((Cell.bel_alloc w o).cell (World.block_lt_of_cell? w _ h)).trans h
  have x0 := X0 (.cells #[.int .u8 0, .int .i64 0, .string ⟨#[]⟩, .bool false] 43)
  have HT := Lib.hid hx.tl
  have HRL := Lib.hid hrl
  have HU := Lib.hid hU
  have HF : Hid (fFirst (b :: r) = fBool r) := Lib.hid (by
    show fMark b.toNat r = _
    rw [show b.toNat = 2 by omega]
    rfl)
  rw [hm] at x0
  clear hm
  clear hx hAt hl e hrl hU X0
  subst hc1
  obtain rfl : m = 0 := by omega
  have et : tlA (some ad) 1 1 = some ad := rfl
  rw [et] at HT
  clear et
  obtain ⟨R, hR⟩ : ∃ R, fBool r = R := ⟨_, rfl⟩
  rw [hR] at HF
  have HR := Lib.hid hR
  clear hR
  go_enter Tryd.func40, Tryd.ntmps40
  go_wp2_with fail
  go_region
  go_wp2_with fail
  have HSL1 : Hid (Slot (w.alloc (.cells #[.int .u8 0, .int .i64 0, .string ⟨#[]⟩, .bool false] 43)).drew w.heap.size) := Lib.hid ((slot_new w).below ((Below.refl _ _).drew))
  have HB1 : Hid (Below w.heap.size w (w.alloc (.cells #[.int .u8 0, .int .i64 0, .string ⟨#[]⟩, .bool false] 43)).drew) := Lib.hid (Cell.bel_alloc _ _).drew
  have HT1 := Lib.hid (HT.out.below (HB1.out.mono hB))
  refine (firstBool_any B r _ _ _ _ (Nat.le_trans hB HB1.out.size) (HT1.out)).mono ?_
  rintro e w3 ⟨hb3, h3⟩
  have HSL3 := Lib.hid (HSL1.out.below hb3)
  have HB3 := Lib.hid (Cell.bel_trans HB1.out hb3)
  clear hb3
  rw [HR.out] at h3
  cases R with
  | none =>
    simp only at h3
    subst h3
    obtain ⟨z0, z1, z2, z3, f0, f1, f2, f3, hlt⟩ := HSL3.out
    go_wp2_with fail
    rw [HF.out]
    exact bodyPost_ret (v := .tuple #[.agg #[.int .u8 0, .int .i64 0, .string ⟨#[]⟩, .bool false], .slice none 0 0, .bool false]) (by simp [results, Tryd.results40, go_sem, HSL3.out.s0, HSL3.out.s1, HSL3.out.s2, HSL3.out.s3]) rfl ⟨bel_slot HB3.out (Nat.le_refl _) _ _ _ _, rfl⟩
  | some vr =>
    obtain ⟨⟨vk, vi, vs, vb⟩, rest⟩ := vr
    simp only at h3
    obtain ⟨A3, n3, c3, rfl, hlr, hs⟩ := h3
    have HLR := Lib.hid hlr
    have HS := Lib.hid hs
    clear hlr hs
    simp only [V.val]
    obtain ⟨z0, z1, z2, z3, f0, f1, f2, f3, hlt⟩ := HSL3.out
    go_wp2_with fail
    rw [HF.out]
    exact bodyPost_ret (v := .tuple #[.agg #[.int .u8 vk, .int .i64 vi, .string vs, .bool vb], .slice A3 n3 c3, .bool true]) (by simp [results, Tryd.results40, go_sem, HSL3.out.s0, HSL3.out.s1, HSL3.out.s2, HSL3.out.s3]) rfl ⟨bel_slot HB3.out (Nat.le_refl _) _ _ _ _, _, _, _, rfl, HLR.out, sl_back HB1.out hB HS.out⟩
theorem first_bool (b : UInt8) (r : List UInt8) (B : Nat) (ad : Addr) (m c : Nat) (w : World) (hB : B ≤ w.heap.size) (hn : m + 1 ≤ 1000000) (hx : Sl w B 1 (some ad) (m + 1) c (u8s (b :: r))) (hU : U8 w) (hc1 : ¬ c = 1) (hm : (b.toNat : Int) = 2) :
    Calls Tryd.prog 40 #[.slice (some ad) (m + 1 : Nat) c] w (FPost B (fFirst (b :: r)) w) := by
  have hl := len_of hx
  have hcap := hx.cap
  unfold maxLen at hcap
  have hle := hx.le
  have hrl : r.length = m := by have : (b :: r).length = r.length + 1 := rfl; omega
  obtain ⟨ad', hA, hAt⟩ := hx.at_ (by omega)
  injection hA with hA
  subst hA
  have e : ad.add 0 = ad := by simp [Addr.add]
  have X0 : ∀ o, (w.alloc o).cell? ad = some (.int .u8 (b.toNat : Int)) := fun o => by
    have h := u8s_at hAt (j := 0) (b := b) rfl
    rw [e] at h
    exact ((Cell.bel_alloc w o).cell (World.block_lt_of_cell? w _ h)).trans h
  have x0 := X0 (.cells #[.int .u8 0, .int .i64 0, .string ⟨#[]⟩, .bool false] 43)
  have HT := Lib.hid hx.tl
  have HRL := Lib.hid hrl
  have HU := Lib.hid hU
  have HF : Hid (fFirst (b :: r) = fBool r) := Lib.hid (by
    show fMark b.toNat r = _
    rw [show b.toNat = 2 by omega]
    rfl)
  rw [hm] at x0
  clear hm
  clear hx hAt hl e hrl hU X0
  have et : tlA (some ad) c 1 = some ⟨ad.block, ad.off + 1, none⟩ := by unfold tlA; rw [if_neg hc1]; rfl
  rw [et] at HT
  clear et
  obtain ⟨R, hR⟩ : ∃ R, fBool r = R := ⟨_, rfl⟩
  rw [hR] at HF
  have HR := Lib.hid hR
  clear hR
  go_enter Tryd.func40, Tryd.ntmps40
  go_wp2_with fail
  go_region
  go_wp2_with fail
  have HSL1 : Hid (Slot (w.alloc (.cells #[.int .u8 0, .int .i64 0, .string ⟨#[]⟩, .bool false] 43)).drew w.heap.size) := Lib.hid ((slot_new w).below ((Below.refl _ _).drew))
  have HB1 : Hid (Below w.heap.size w (w.alloc (.cells #[.int .u8 0, .int .i64 0, .string ⟨#[]⟩, .bool false] 43)).drew) := Lib.hid (Cell.bel_alloc _ _).drew
  have HT1 := Lib.hid (HT.out.below (HB1.out.mono hB))
  refine (firstBool_any B r _ _ _ _ (Nat.le_trans hB HB1.out.size) (HT1.out)).mono ?_
  rintro e w3 ⟨hb3, h3⟩
  have HSL3 := Lib.hid (HSL1.out.below hb3)
  have HB3 := Lib.hid (Cell.bel_trans HB1.out hb3)
  clear hb3
  rw [HR.out] at h3
  cases R with
  | none =>
    simp only at h3
    subst h3
    obtain ⟨z0, z1, z2, z3, f0, f1, f2, f3, hlt⟩ := HSL3.out
    go_wp2_with fail
    rw [HF.out]
    exact bodyPost_ret (v := .tuple #[.agg #[.int .u8 0, .int .i64 0, .string ⟨#[]⟩, .bool false], .slice none 0 0, .bool false]) (by simp [results, Tryd.results40, go_sem, HSL3.out.s0, HSL3.out.s1, HSL3.out.s2, HSL3.out.s3]) rfl ⟨bel_slot HB3.out (Nat.le_refl _) _ _ _ _, rfl⟩
  | some vr =>
    obtain ⟨⟨vk, vi, vs, vb⟩, rest⟩ := vr
    simp only at h3
    obtain ⟨A3, n3, c3, rfl, hlr, hs⟩ := h3
    have HLR := Lib.hid hlr
    have HS := Lib.hid hs
    clear hlr hs
    simp only [V.val]
    obtain ⟨z0, z1, z2, z3, f0, f1, f2, f3, hlt⟩ := HSL3.out
    go_wp2_with fail
    rw [HF.out]
    exact bodyPost_ret (v := .tuple #[.agg #[.int .u8 vk, .int .i64 vi, .string vs, .bool vb], .slice A3 n3 c3, .bool true]) (by simp [results, Tryd.results40, go_sem, HSL3.out.s0, HSL3.out.s1, HSL3.out.s2, HSL3.out.s3]) rfl ⟨bel_slot HB3.out (Nat.le_refl _) _ _ _ _, _, _, _, rfl, HLR.out, sl_back HB1.out hB HS.out⟩
theorem first_num1 (b : UInt8) (r : List UInt8) (B : Nat) (ad : Addr) (m c : Nat) (w : World) (hB : B ≤ w.heap.size) (hn : m + 1 ≤ 1000000) (hx : Sl w B 1 (some ad) (m + 1) c (u8s (b :: r))) (hU : U8 w) (hc1 : c = 1) (hm : (b.toNat : Int) = 3) :
    Calls Tryd.prog 40 #[.slice (some ad) (m + 1 : Nat) c] w (FPost B (fFirst (b :: r)) w) := by
  have hl := len_of hx
  have hcap := hx.cap
  unfold maxLen at hcap
  have hle := hx.le
  have hrl : r.length = m := by have : (b :: r).length = r.length + 1 := rfl; omega
  obtain ⟨ad', hA, hAt⟩ := hx.at_ (by omega)
  injection hA with hA
  subst hA
  have e : ad.add 0 = ad := by simp [Addr.add]
  have X0 : ∀ o, (w.alloc o).cell? ad = some (.int .u8 (b.toNat : Int)) := fun o => by
    have h := u8s_at hAt (j := 0) (b := b) rfl
    rw [e] at h
    exact ((Cell.bel_alloc w o).cell (World.block_lt_of_cell? w _ h)).trans h
  have x0 := X0 (.cells #[.int .u8 0, .int .i64 0, .string ⟨#[]⟩, .bool false] 43)
  have HT := Lib.hid hx.tl
  have HRL := Lib.hid hrl
  have HU := Lib.hid hU
  have HF : Hid (fFirst (b :: r) = fNum r) := Lib.hid (by
    show fMark b.toNat r = _
    rw [show b.toNat = 3 by omega]
    rfl)
  rw [hm] at x0
  clear hm
  clear hx hAt hl e hrl hU X0
  subst hc1
  obtain rfl : m = 0 := by omega
  have et : tlA (some ad) 1 1 = some ad := rfl
  rw [et] at HT
  clear et
  obtain ⟨R, hR⟩ : ∃ R, fNum r = R := ⟨_, rfl⟩
  rw [hR] at HF
  have HR := Lib.hid hR
  clear hR
  go_enter Tryd.func40, Tryd.ntmps40
  go_wp2_with fail
  go_region
  go_wp2_with fail
  have HSL1 : Hid (Slot (w.alloc (.cells #[.int .u8 0, .int .i64 0, .string ⟨#[]⟩, .bool false] 43)).drew w.heap.size) := Lib.hid ((slot_new w).below ((Below.refl _ _).drew))
  have HB1 : Hid (Below w.heap.size w (w.alloc (.cells #[.int .u8 0, .int .i64 0, .string ⟨#[]⟩, .bool false] 43)).drew) := Lib.hid (Cell.bel_alloc _ _).drew
  have HT1 := Lib.hid (HT.out.below (HB1.out.mono hB))
  refine (firstNumber_any B r _ _ _ _ (Nat.le_trans hB HB1.out.size) (HT1.out)).mono ?_
  rintro e w3 ⟨hb3, h3⟩
  have HSL3 := Lib.hid (HSL1.out.below hb3)
  have HB3 := Lib.hid (Cell.bel_trans HB1.out hb3)
  clear hb3
  rw [HR.out] at h3
  cases R with
  | none =>
    simp only at h3
    subst h3
    obtain ⟨z0, z1, z2, z3, f0, f1, f2, f3, hlt⟩ := HSL3.out
    go_wp2_with fail
    rw [HF.out]
    exact bodyPost_ret (v := .tuple #[.agg #[.int .u8 0, .int .i64 0, .string ⟨#[]⟩, .bool false], .slice none 0 0, .bool false]) (by simp [results, Tryd.results40, go_sem, HSL3.out.s0, HSL3.out.s1, HSL3.out.s2, HSL3.out.s3]) rfl ⟨bel_slot HB3.out (Nat.le_refl _) _ _ _ _, rfl⟩
  | some vr =>
    obtain ⟨⟨vk, vi, vs, vb⟩, rest⟩ := vr
    simp only at h3
    obtain ⟨A3, n3, c3, rfl, hlr, hs⟩ := h3
    have HLR := Lib.hid hlr
    have HS := Lib.hid hs
    clear hlr hs
    simp only [V.val]
    obtain ⟨z0, z1, z2, z3, f0, f1, f2, f3, hlt⟩ := HSL3.out
    go_wp2_with fail
    rw [HF.out]
    exact bodyPost_ret (v := .tuple #[.agg #[.int .u8 vk, .int .i64 vi, .string vs, .bool vb], .slice A3 n3 c3, .bool true]) (by simp [results, Tryd.results40, go_sem, HSL3.out.s0, HSL3.out.s1, HSL3.out.s2, HSL3.out.s3]) rfl ⟨bel_slot HB3.out (Nat.le_refl _) _ _ _ _, _, _, _, rfl, HLR.out, sl_back HB1.out hB HS.out⟩
theorem first_num (b : UInt8) (r : List UInt8) (B : Nat) (ad : Addr) (m c : Nat) (w : World) (hB : B ≤ w.heap.size) (hn : m + 1 ≤ 1000000) (hx : Sl w B 1 (some ad) (m + 1) c (u8s (b :: r))) (hU : U8 w) (hc1 : ¬ c = 1) (hm : (b.toNat : Int) = 3) :
    Calls Tryd.prog 40 #[.slice (some ad) (m + 1 : Nat) c] w (FPost B (fFirst (b :: r)) w) := by
  have hl := len_of hx
  have hcap := hx.cap
  unfold maxLen at hcap
  have hle := hx.le
  have hrl : r.length = m := by have : (b :: r).length = r.length + 1 := rfl; omega
  obtain ⟨ad', hA, hAt⟩ := hx.at_ (by omega)
  injection hA with hA
  subst hA
  have e : ad.add 0 = ad := by simp [Addr.add]
  have X0 : ∀ o, (w.alloc o).cell? ad = some (.int .u8 (b.toNat : Int)) := fun o => by
    have h := u8s_at hAt (j := 0) (b := b) rfl
    rw [e] at h
    exact ((Cell.bel_alloc w o).cell (World.block_lt_of_cell? w _ h)).trans h
  have x0 := X0 (.cells #[.int .u8 0, .int .i64 0, .string ⟨#[]⟩, .bool false] 43)
  have HT := Lib.hid hx.tl
  have HRL := Lib.hid hrl
  have HU := Lib.hid hU
  have HF : Hid (fFirst (b :: r) = fNum r) := Lib.hid (by
    show fMark b.toNat r = _
    rw [show b.toNat = 3 by omega]
    rfl)
  rw [hm] at x0
  clear hm
  clear hx hAt hl e hrl hU X0
  have et : tlA (some ad) c 1 = some ⟨ad.block, ad.off + 1, none⟩ := by unfold tlA; rw [if_neg hc1]; rfl
  rw [et] at HT
  clear et
  obtain ⟨R, hR⟩ : ∃ R, fNum r = R := ⟨_, rfl⟩
  rw [hR] at HF
  have HR := Lib.hid hR
  clear hR
  go_enter Tryd.func40, Tryd.ntmps40
  go_wp2_with fail
  go_region
  go_wp2_with fail
  have HSL1 : Hid (Slot (w.alloc (.cells #[.int .u8 0, .int .i64 0, .string ⟨#[]⟩, .bool false] 43)).drew w.heap.size) := Lib.hid ((slot_new w).below ((Below.refl _ _).drew))
  have HB1 : Hid (Below w.heap.size w (w.alloc (.cells #[.int .u8 0, .int .i64 0, .string ⟨#[]⟩, .bool false] 43)).drew) := Lib.hid (Cell.bel_alloc _ _).drew
  have HT1 := Lib.hid (HT.out.below (HB1.out.mono hB))
  refine (firstNumber_any B r _ _ _ _ (Nat.le_trans hB HB1.out.size) (HT1.out)).mono ?_
  rintro e w3 ⟨hb3, h3⟩
  have HSL3 := Lib.hid (HSL1.out.below hb3)
  have HB3 := Lib.hid (Cell.bel_trans HB1.out hb3)
  clear hb3
  rw [HR.out] at h3
  cases R with
  | none =>
    simp only at h3
    subst h3
    obtain ⟨z0, z1, z2, z3, f0, f1, f2, f3, hlt⟩ := HSL3.out
    go_wp2_with fail
    rw [HF.out]
    exact bodyPost_ret (v := .tuple #[.agg #[.int .u8 0, .int .i64 0, .string ⟨#[]⟩, .bool false], .slice none 0 0, .bool false]) (by simp [results, Tryd.results40, go_sem, HSL3.out.s0, HSL3.out.s1, HSL3.out.s2, HSL3.out.s3]) rfl ⟨bel_slot HB3.out (Nat.le_refl _) _ _ _ _, rfl⟩
  | some vr =>
    obtain ⟨⟨vk, vi, vs, vb⟩, rest⟩ := vr
    simp only at h3
    obtain ⟨A3, n3, c3, rfl, hlr, hs⟩ := h3
    have HLR := Lib.hid hlr
    have HS := Lib.hid hs
    clear hlr hs
    simp only [V.val]
    obtain ⟨z0, z1, z2, z3, f0, f1, f2, f3, hlt⟩ := HSL3.out
    go_wp2_with fail
    rw [HF.out]
    exact bodyPost_ret (v := .tuple #[.agg #[.int .u8 vk, .int .i64 vi, .string vs, .bool vb], .slice A3 n3 c3, .bool true]) (by simp [results, Tryd.results40, go_sem, HSL3.out.s0, HSL3.out.s1, HSL3.out.s2, HSL3.out.s3]) rfl ⟨bel_slot HB3.out (Nat.le_refl _) _ _ _ _, _, _, _, rfl, HLR.out, sl_back HB1.out hB HS.out⟩
theorem first_text1 (b : UInt8) (r : List UInt8) (B : Nat) (ad : Addr) (m c : Nat) (w : World) (hB : B ≤ w.heap.size) (hn : m + 1 ≤ 1000000) (hx : Sl w B 1 (some ad) (m + 1) c (u8s (b :: r))) (hU : U8 w) (hc1 : c = 1) (hm : (b.toNat : Int) = 4) :
    Calls Tryd.prog 40 #[.slice (some ad) (m + 1 : Nat) c] w (FPost B (fFirst (b :: r)) w) := by
  have hl := len_of hx
  have hcap := hx.cap
  unfold maxLen at hcap
  have hle := hx.le
  have hrl : r.length = m := by have : (b :: r).length = r.length + 1 := rfl; omega
  obtain ⟨ad', hA, hAt⟩ := hx.at_ (by omega)
  injection hA with hA
  subst hA
  have e : ad.add 0 = ad := by simp [Addr.add]
  have X0 : ∀ o, (w.alloc o).cell? ad = some (.int .u8 (b.toNat : Int)) := fun o => by
    have h := u8s_at hAt (j := 0) (b := b) rfl
    rw [e] at h
    exact ((Cell.bel_alloc w o).cell (World.block_lt_of_cell? w _ h)).trans h
  have x0 := X0 (.cells #[.int .u8 0, .int .i64 0, .string ⟨#[]⟩, .bool false] 43)
  have HT := Lib.hid hx.tl
  have HRL := Lib.hid hrl
  have HU := Lib.hid hU
  have HF : Hid (fFirst (b :: r) = fText r) := Lib.hid (by
    show fMark b.toNat r = _
    rw [show b.toNat = 4 by omega]
    rfl)
  rw [hm] at x0
  clear hm
  clear hx hAt hl e hrl hU X0
  subst hc1
  obtain rfl : m = 0 := by omega
  have et : tlA (some ad) 1 1 = some ad := rfl
  rw [et] at HT
  clear et
  obtain ⟨R, hR⟩ : ∃ R, fText r = R := ⟨_, rfl⟩
  rw [hR] at HF
  have HR := Lib.hid hR
  clear hR
  go_enter Tryd.func40, Tryd.ntmps40
  go_wp2_with fail
  go_region
  go_wp2_with fail
  have HSL1 : Hid (Slot (w.alloc (.cells #[.int .u8 0, .int .i64 0, .string ⟨#[]⟩, .bool false] 43)).drew w.heap.size) := Lib.hid ((slot_new w).below ((Below.refl _ _).drew))
  have HB1 : Hid (Below w.heap.size w (w.alloc (.cells #[.int .u8 0, .int .i64 0, .string ⟨#[]⟩, .bool false] 43)).drew) := Lib.hid (Cell.bel_alloc _ _).drew
  have HT1 := Lib.hid (HT.out.below (HB1.out.mono hB))
  refine (firstText_any B r _ _ _ _ (Nat.le_trans hB HB1.out.size) (by omega) (HT1.out) (HU.out.below HB1.out)).mono ?_
  rintro e w3 ⟨hb3, h3⟩
  have HSL3 := Lib.hid (HSL1.out.below hb3)
  have HB3 := Lib.hid (Cell.bel_trans HB1.out hb3)
  clear hb3
  rw [HR.out] at h3
  cases R with
  | none =>
    simp only at h3
    subst h3
    obtain ⟨z0, z1, z2, z3, f0, f1, f2, f3, hlt⟩ := HSL3.out
    go_wp2_with fail
    rw [HF.out]
    exact bodyPost_ret (v := .tuple #[.agg #[.int .u8 0, .int .i64 0, .string ⟨#[]⟩, .bool false], .slice none 0 0, .bool false]) (by simp [results, Tryd.results40, go_sem, HSL3.out.s0, HSL3.out.s1, HSL3.out.s2, HSL3.out.s3]) rfl ⟨bel_slot HB3.out (Nat.le_refl _) _ _ _ _, rfl⟩
  | some vr =>
    obtain ⟨⟨vk, vi, vs, vb⟩, rest⟩ := vr
    simp only at h3
    obtain ⟨A3, n3, c3, rfl, hlr, hs⟩ := h3
    have HLR := Lib.hid hlr
    have HS := Lib.hid hs
    clear hlr hs
    simp only [V.val]
    obtain ⟨z0, z1, z2, z3, f0, f1, f2, f3, hlt⟩ := HSL3.out
    go_wp2_with fail
    rw [HF.out]
    exact bodyPost_ret (v := .tuple #[.agg #[.int .u8 vk, .int .i64 vi, .string vs, .bool vb], .slice A3 n3 c3, .bool true]) (by simp [results, Tryd.results40, go_sem, HSL3.out.s0, HSL3.out.s1, HSL3.out.s2, HSL3.out.s3]) rfl ⟨bel_slot HB3.out (Nat.le_refl _) _ _ _ _, _, _, _, rfl, HLR.out, sl_back HB1.out hB HS.out⟩
theorem first_text (b : UInt8) (r : List UInt8) (B : Nat) (ad : Addr) (m c : Nat) (w : World) (hB : B ≤ w.heap.size) (hn : m + 1 ≤ 1000000) (hx : Sl w B 1 (some ad) (m + 1) c (u8s (b :: r))) (hU : U8 w) (hc1 : ¬ c = 1) (hm : (b.toNat : Int) = 4) :
    Calls Tryd.prog 40 #[.slice (some ad) (m + 1 : Nat) c] w (FPost B (fFirst (b :: r)) w) := by
  have hl := len_of hx
  have hcap := hx.cap
  unfold maxLen at hcap
  have hle := hx.le
  have hrl : r.length = m := by have : (b :: r).length = r.length + 1 := rfl; omega
  obtain ⟨ad', hA, hAt⟩ := hx.at_ (by omega)
  injection hA with hA
  subst hA
  have e : ad.add 0 = ad := by simp [Addr.add]
  have X0 : ∀ o, (w.alloc o).cell? ad = some (.int .u8 (b.toNat : Int)) := fun o => by
    have h := u8s_at hAt (j := 0) (b := b) rfl
    rw [e] at h
    exact ((Cell.bel_alloc w o).cell (World.block_lt_of_cell? w _ h)).trans h
  have x0 := X0 (.cells #[.int .u8 0, .int .i64 0, .string ⟨#[]⟩, .bool false] 43)
  have HT := Lib.hid hx.tl
  have HRL := Lib.hid hrl
  have HU := Lib.hid hU
  have HF : Hid (fFirst (b :: r) = fText r) := Lib.hid (by
    show fMark b.toNat r = _
    rw [show b.toNat = 4 by omega]
    rfl)
  rw [hm] at x0
  clear hm
  clear hx hAt hl e hrl hU X0
  have et : tlA (some ad) c 1 = some ⟨ad.block, ad.off + 1, none⟩ := by unfold tlA; rw [if_neg hc1]; rfl
  rw [et] at HT
  clear et
  obtain ⟨R, hR⟩ : ∃ R, fText r = R := ⟨_, rfl⟩
  rw [hR] at HF
  have HR := Lib.hid hR
  clear hR
  go_enter Tryd.func40, Tryd.ntmps40
  go_wp2_with fail
  go_region
  go_wp2_with fail
  have HSL1 : Hid (Slot (w.alloc (.cells #[.int .u8 0, .int .i64 0, .string ⟨#[]⟩, .bool false] 43)).drew w.heap.size) := Lib.hid ((slot_new w).below ((Below.refl _ _).drew))
  have HB1 : Hid (Below w.heap.size w (w.alloc (.cells #[.int .u8 0, .int .i64 0, .string ⟨#[]⟩, .bool false] 43)).drew) := Lib.hid (Cell.bel_alloc _ _).drew
  have HT1 := Lib.hid (HT.out.below (HB1.out.mono hB))
  refine (firstText_any B r _ _ _ _ (Nat.le_trans hB HB1.out.size) (by omega) (HT1.out) (HU.out.below HB1.out)).mono ?_
  rintro e w3 ⟨hb3, h3⟩
  have HSL3 := Lib.hid (HSL1.out.below hb3)
  have HB3 := Lib.hid (Cell.bel_trans HB1.out hb3)
  clear hb3
  rw [HR.out] at h3
  cases R with
  | none =>
    simp only at h3
    subst h3
    obtain ⟨z0, z1, z2, z3, f0, f1, f2, f3, hlt⟩ := HSL3.out
    go_wp2_with fail
    rw [HF.out]
    exact bodyPost_ret (v := .tuple #[.agg #[.int .u8 0, .int .i64 0, .string ⟨#[]⟩, .bool false], .slice none 0 0, .bool false]) (by simp [results, Tryd.results40, go_sem, HSL3.out.s0, HSL3.out.s1, HSL3.out.s2, HSL3.out.s3]) rfl ⟨bel_slot HB3.out (Nat.le_refl _) _ _ _ _, rfl⟩
  | some vr =>
    obtain ⟨⟨vk, vi, vs, vb⟩, rest⟩ := vr
    simp only at h3
    obtain ⟨A3, n3, c3, rfl, hlr, hs⟩ := h3
    have HLR := Lib.hid hlr
    have HS := Lib.hid hs
    clear hlr hs
    simp only [V.val]
    obtain ⟨z0, z1, z2, z3, f0, f1, f2, f3, hlt⟩ := HSL3.out
    go_wp2_with fail
    rw [HF.out]
    exact bodyPost_ret (v := .tuple #[.agg #[.int .u8 vk, .int .i64 vi, .string vs, .bool vb], .slice A3 n3 c3, .bool true]) (by simp [results, Tryd.results40, go_sem, HSL3.out.s0, HSL3.out.s1, HSL3.out.s2, HSL3.out.s3]) rfl ⟨bel_slot HB3.out (Nat.le_refl _) _ _ _ _, _, _, _, rfl, HLR.out, sl_back HB1.out hB HS.out⟩
end Go.Proofs.YtfabcnbblhadnaaDoor.Mem
