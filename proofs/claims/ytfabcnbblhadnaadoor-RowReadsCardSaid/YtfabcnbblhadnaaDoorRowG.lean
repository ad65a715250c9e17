/- row.first: the value of a kind at the head of bytes. -/
import Derived.Test.YtfabcnbblhadnaaDoorRowT
import Derived.Test.YtfabcnbblhadnaaDoorKeyF
namespace Go.Proofs.YtfabcnbblhadnaaDoor.Mem
open Go.RowKit Go.Proofs.YtfabcnbblhadnaaDoor.Nums
open Go.Proofs.YtfabcnbblhadnaaDoor.Cell (U8)
set_option linter.unusedVariables false
set_option linter.unusedSimpArgs false
set_option maxRecDepth 100000
theorem rfirstText_any (B : Nat) (x : List UInt8) (A : Option Addr) (n c : Nat) (w : World) (hB : B ≤ w.heap.size) (hn : n ≤ 1000000) (hx : Sl w B 1 A n c (u8s x)) (hU : U8 w) :
    Calls Tryd.prog 61 #[.slice A n c] w (FPost B (rText x) w) := by
  have hl := len_of hx
  cases x with
  | nil =>
    obtain rfl : n = 0 := by rw [← hl]; rfl
    exact rtext_nil B A c w
  | cons b r =>
    obtain ⟨m, rfl⟩ : ∃ m, n = m + 1 := ⟨n - 1, by have : (b :: r).length = r.length + 1 := rfl; omega⟩
    obtain ⟨ad, hA, hAt⟩ := hx.at_ (by omega)
    subst hA
    have hle := hx.le
    by_cases hs : m < b.toNat
    · exact rtext_short b r B ad m c w hB hn hx hs
    · obtain ⟨z, hz⟩ : ∃ z, b.toNat = z := ⟨_, rfl⟩
      obtain ⟨m', rfl⟩ : ∃ m', m = m' + z := ⟨m - z, by omega⟩
      by_cases hc1 : c = 1
      · cases hr : Cell.rightB 2 0 (str (r.take z)) false
        · exact rtext_An b r B ad m' z c w hB hn hz hx hU hc1 hr
        · exact rtext_Ay b r B ad m' z c w hB hn hz hx hU hc1 hr
      by_cases hcz : c = z + 1
      · cases hr : Cell.rightB 2 0 (str (r.take z)) false
        · exact rtext_Bn b r B ad m' z c w hB hn hz hx hU hcz (by omega) hr
        · exact rtext_By b r B ad m' z c w hB hn hz hx hU hcz (by omega) hr
      · cases hr : Cell.rightB 2 0 (str (r.take z)) false
        · exact rtext_Cn b r B ad m' z c w hB hn hz hx hU hcz hr
        · exact rtext_Cy b r B ad m' z c w hB hn hz hx hU hcz hr
/-- what a kind's value is read from -/
def rFirst (k : Int) (x : List UInt8) : Option (V × List UInt8) := if k = 1 then rNum x else if k = 2 then rText x else fBool x
theorem rfirst_num (B : Nat) (x : List UInt8) (A : Option Addr) (n c : Nat) (w : World) (hB : B ≤ w.heap.size) (hn : n ≤ 1000000) (hx : Sl w B 1 A n c (u8s x)) (hU : U8 w) :
    Calls Tryd.prog 50 #[.int .u8 1, .slice A n c] w (FPost B (rFirst 1 x) w) := by
  have HX := Lib.hid hx
  have HU := Lib.hid hU
  obtain ⟨R, hR⟩ : ∃ R, rNum x = R := ⟨_, rfl⟩
  have HF : Hid (rFirst 1 x = R) := Lib.hid (by rw [← hR]; rfl)
  have HR := Lib.hid hR
  have HSL1 : Hid (Slot (w.alloc (.cells #[.int .u8 0, .int .i64 0, .string ⟨#[]⟩, .bool false] 43)) w.heap.size) := Lib.hid (slot_new w)
  have HB1 : Hid (Below w.heap.size w (w.alloc (.cells #[.int .u8 0, .int .i64 0, .string ⟨#[]⟩, .bool false] 43))) := Lib.hid (Cell.bel_alloc _ _)
  have HX1 := Lib.hid (HX.out.below (HB1.out.mono hB))
  clear hR hx hU
  go_enter Tryd.func50, Tryd.ntmps50
  go_wp2_with fail
  refine (rfirstNumber_any B x _ _ _ _ (Nat.le_trans hB HB1.out.size) HX1.out).mono ?_
  rintro e w3 ⟨hb3, h3⟩
  have HSL3 := Lib.hid (HSL1.out.below hb3)
  have HB3 := Lib.hid (Cell.bel_trans HB1.out hb3)
  clear hb3
  rw [HR.out] at h3
  cases R with
  | none =>
    simp only at h3
    subst h3
    obtain ⟨z0, z1, z2, z3, f0, f1, f2, f3, hlt⟩ := HSL3.out
    go_wp2_with fail
    rw [HF.out]
    exact bodyPost_ret (v := .tuple #[.agg #[.int .u8 0, .int .i64 0, .string ⟨#[]⟩, .bool false], .slice none 0 0, .bool false]) (by simp [results, Tryd.results50, go_sem, HSL3.out.s0, HSL3.out.s1, HSL3.out.s2, HSL3.out.s3]) rfl ⟨bel_slot HB3.out (Nat.le_refl _) _ _ _ _, rfl⟩
  | some vr =>
    obtain ⟨⟨vk, vi, vs, vb⟩, rest⟩ := vr
    simp only at h3
    obtain ⟨A3, n3, c3, rfl, hlr, hs⟩ := h3
    have HLR := Lib.hid hlr
    have HS := Lib.hid hs
    clear hlr hs
    simp only [V.val]
    obtain ⟨z0, z1, z2, z3, f0, f1, f2, f3, hlt⟩ := HSL3.out
    go_wp2_with fail
    rw [HF.out]
    exact bodyPost_ret (v := .tuple #[.agg #[.int .u8 vk, .int .i64 vi, .string vs, .bool vb], .slice A3 n3 c3, .bool true]) (by simp [results, Tryd.results50, go_sem, HSL3.out.s0, HSL3.out.s1, HSL3.out.s2, HSL3.out.s3]) rfl ⟨bel_slot HB3.out (Nat.le_refl _) _ _ _ _, _, _, _, rfl, HLR.out, sl_back HB1.out hB HS.out⟩
theorem rfirst_text (B : Nat) (x : List UInt8) (A : Option Addr) (n c : Nat) (w : World) (hB : B ≤ w.heap.size) (hn : n ≤ 1000000) (hx : Sl w B 1 A n c (u8s x)) (hU : U8 w) :
    Calls Tryd.prog 50 #[.int .u8 2, .slice A n c] w (FPost B (rFirst 2 x) w) := by
  have HX := Lib.hid hx
  have HU := Lib.hid hU
  obtain ⟨R, hR⟩ : ∃ R, rText x = R := ⟨_, rfl⟩
  have HF : Hid (rFirst 2 x = R) := Lib.hid (by rw [← hR]; rfl)
  have HR := Lib.hid hR
  have HSL1 : Hid (Slot (w.alloc (.cells #[.int .u8 0, .int .i64 0, .string ⟨#[]⟩, .bool false] 43)) w.heap.size) := Lib.hid (slot_new w)
  have HB1 : Hid (Below w.heap.size w (w.alloc (.cells #[.int .u8 0, .int .i64 0, .string ⟨#[]⟩, .bool false] 43))) := Lib.hid (Cell.bel_alloc _ _)
  have HX1 := Lib.hid (HX.out.below (HB1.out.mono hB))
  clear hR hx hU
  go_enter Tryd.func50, Tryd.ntmps50
  go_wp2_with fail
  refine (rfirstText_any B x _ _ _ _ (Nat.le_trans hB HB1.out.size) hn HX1.out (HU.out.below HB1.out)).mono ?_
  rintro e w3 ⟨hb3, h3⟩
  have HSL3 := Lib.hid (HSL1.out.below hb3)
  have HB3 := Lib.hid (Cell.bel_trans HB1.out hb3)
  clear hb3
  rw [HR.out] at h3
  cases R with
  | none =>
    simp only at h3
    subst h3
    obtain ⟨z0, z1, z2, z3, f0, f1, f2, f3, hlt⟩ := HSL3.out
    go_wp2_with fail
    rw [HF.out]
    exact bodyPost_ret (v := .tuple #[.agg #[.int .u8 0, .int .i64 0, .string ⟨#[]⟩, .bool false], .slice none 0 0, .bool false]) (by simp [results, Tryd.results50, go_sem, HSL3.out.s0, HSL3.out.s1, HSL3.out.s2, HSL3.out.s3]) rfl ⟨bel_slot HB3.out (Nat.le_refl _) _ _ _ _, rfl⟩
  | some vr =>
    obtain ⟨⟨vk, vi, vs, vb⟩, rest⟩ := vr
    simp only at h3
    obtain ⟨A3, n3, c3, rfl, hlr, hs⟩ := h3
    have HLR := Lib.hid hlr
    have HS := Lib.hid hs
    clear hlr hs
    simp only [V.val]
    obtain ⟨z0, z1, z2, z3, f0, f1, f2, f3, hlt⟩ := HSL3.out
    go_wp2_with fail
    rw [HF.out]
    exact bodyPost_ret (v := .tuple #[.agg #[.int .u8 vk, .int .i64 vi, .string vs, .bool vb], .slice A3 n3 c3, .bool true]) (by simp [results, Tryd.results50, go_sem, HSL3.out.s0, HSL3.out.s1, HSL3.out.s2, HSL3.out.s3]) rfl ⟨bel_slot HB3.out (Nat.le_refl _) _ _ _ _, _, _, _, rfl, HLR.out, sl_back HB1.out hB HS.out⟩
theorem rfirst_bool (B : Nat) (x : List UInt8) (A : Option Addr) (n c : Nat) (w : World) (hB : B ≤ w.heap.size) (hn : n ≤ 1000000) (hx : Sl w B 1 A n c (u8s x)) (hU : U8 w) :
    Calls Tryd.prog 50 #[.int .u8 3, .slice A n c] w (FPost B (rFirst 3 x) w) := by
  have HX := Lib.hid hx
  have HU := Lib.hid hU
  obtain ⟨R, hR⟩ : ∃ R, fBool x = R := ⟨_, rfl⟩
  have HF : Hid (rFirst 3 x = R) := Lib.hid (by rw [← hR]; rfl)
  have HR := Lib.hid hR
  have HSL1 : Hid (Slot (w.alloc (.cells #[.int .u8 0, .int .i64 0, .string ⟨#[]⟩, .bool false] 43)) w.heap.size) := Lib.hid (slot_new w)
  have HB1 : Hid (Below w.heap.size w (w.alloc (.cells #[.int .u8 0, .int .i64 0, .string ⟨#[]⟩, .bool false] 43))) := Lib.hid (Cell.bel_alloc _ _)
  have HX1 := Lib.hid (HX.out.below (HB1.out.mono hB))
  clear hR hx hU
  go_enter Tryd.func50, Tryd.ntmps50
  go_wp2_with fail
  refine (rfirstBool_any B x _ _ _ _ (Nat.le_trans hB HB1.out.size) HX1.out).mono ?_
  rintro e w3 ⟨hb3, h3⟩
  have HSL3 := Lib.hid (HSL1.out.below hb3)
  have HB3 := Lib.hid (Cell.bel_trans HB1.out hb3)
  clear hb3
  rw [HR.out] at h3
  cases R with
  | none =>
    simp only at h3
    subst h3
    obtain ⟨z0, z1, z2, z3, f0, f1, f2, f3, hlt⟩ := HSL3.out
    go_wp2_with fail
    rw [HF.out]
    exact bodyPost_ret (v := .tuple #[.agg #[.int .u8 0, .int .i64 0, .string ⟨#[]⟩, .bool false], .slice none 0 0, .bool false]) (by simp [results, Tryd.results50, go_sem, HSL3.out.s0, HSL3.out.s1, HSL3.out.s2, HSL3.out.s3]) rfl ⟨bel_slot HB3.out (Nat.le_refl _) _ _ _ _, rfl⟩
  | some vr =>
    obtain ⟨⟨vk, vi, vs, vb⟩, rest⟩ := vr
    simp only at h3
    obtain ⟨A3, n3, c3, rfl, hlr, hs⟩ := h3
    have HLR := Lib.hid hlr
    have HS := Lib.hid hs
    clear hlr hs
    simp only [V.val]
    obtain ⟨z0, z1, z2, z3, f0, f1, f2, f3, hlt⟩ := HSL3.out
    go_wp2_with fail
    rw [HF.out]
    exact bodyPost_ret (v := .tuple #[.agg #[.int .u8 vk, .int .i64 vi, .string vs, .bool vb], .slice A3 n3 c3, .bool true]) (by simp [results, Tryd.results50, go_sem, HSL3.out.s0, HSL3.out.s1, HSL3.out.s2, HSL3.out.s3]) rfl ⟨bel_slot HB3.out (Nat.le_refl _) _ _ _ _, _, _, _, rfl, HLR.out, sl_back HB1.out hB HS.out⟩
end Go.Proofs.YtfabcnbblhadnaaDoor.Mem
