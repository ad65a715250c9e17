/- key.firstText. -/
import Derived.Test.YtfabcnbblhadnaaDoorKeyN
namespace Go.Proofs.YtfabcnbblhadnaaDoor.Mem
open Go.RowKit Go.Proofs.YtfabcnbblhadnaaDoor.Nums
open Go.Proofs.YtfabcnbblhadnaaDoor.Cell (U8)
set_option linter.unusedVariables false
set_option linter.unusedSimpArgs false
set_option maxRecDepth 100000
/-- A result's cell that holds a zero value, and may be written. -/
structure Slot (w : World) (b : Nat) : Prop where
  c0 : w.cell? ⟨b, 0, none⟩ = some (.int .u8 0)
  c1 : w.cell? ⟨b, 1, none⟩ = some (.int .i64 0)
  c2 : w.cell? ⟨b, 2, none⟩ = some (.string ⟨#[]⟩)
  c3 : w.cell? ⟨b, 3, none⟩ = some (.bool false)
  f0 : w.frozen? ⟨b, 0, none⟩ = false
  f1 : w.frozen? ⟨b, 1, none⟩ = false
  f2 : w.frozen? ⟨b, 2, none⟩ = false
  f3 : w.frozen? ⟨b, 3, none⟩ = false
  lt : b < w.heap.size
theorem frozen_at_new (w : World) (cs : Array Value) (t : TypeId) (j : Nat) : (w.alloc (.cells cs t)).frozen? ⟨w.heap.size, j, none⟩ = false := by
  rw [frozen?_alloc_cells]
  unfold World.frozen?
  rw [Array.getElem?_eq_none (Nat.le_refl _)]
theorem slot_new (w : World) : Slot (w.alloc (.cells #[.int .u8 0, .int .i64 0, .string ⟨#[]⟩, .bool false] 43)) w.heap.size := by
  have h := at_new w #[.int .u8 0, .int .i64 0, .string ⟨#[]⟩, .bool false] 43
  exact ⟨h.2 0 _ rfl, h.2 1 _ rfl, h.2 2 _ rfl, h.2 3 _ rfl, frozen_at_new _ _ _ _, frozen_at_new _ _ _ _, frozen_at_new _ _ _ _, frozen_at_new _ _ _ _, by rw [size_alloc]; omega⟩
theorem Slot.below {w w' : World} {b : Nat} (h : Slot w b) (hb : Below w.heap.size w w') : Slot w' b :=
  ⟨(hb.cell h.lt).trans h.c0, (hb.cell h.lt).trans h.c1, (hb.cell h.lt).trans h.c2, (hb.cell h.lt).trans h.c3, (hb.frozen h.lt).trans h.f0, (hb.frozen h.lt).trans h.f1, (hb.frozen h.lt).trans h.f2, (hb.frozen h.lt).trans h.f3, Nat.lt_of_lt_of_le h.lt hb.size⟩
theorem Slot.s0 {w : World} {b : Nat} (h : Slot w b) (v : Value) : (w.setCell ⟨b, 0, none⟩ v).cell? ⟨b, 0, none⟩ = some v := World.cell?_setCell_same _ _ _ h.c0
theorem Slot.s1 {w : World} {b : Nat} (h : Slot w b) (v0 v : Value) : ((w.setCell ⟨b, 0, none⟩ v0).setCell ⟨b, 1, none⟩ v).cell? ⟨b, 1, none⟩ = some v :=
  World.cell?_setCell_same _ _ _ (by rw [World.cell?_setCell_other _ _ _ _ (by simp)]; exact h.c1)
theorem Slot.s2 {w : World} {b : Nat} (h : Slot w b) (v0 v1 v : Value) : (((w.setCell ⟨b, 0, none⟩ v0).setCell ⟨b, 1, none⟩ v1).setCell ⟨b, 2, none⟩ v).cell? ⟨b, 2, none⟩ = some v :=
  World.cell?_setCell_same _ _ _ (by rw [World.cell?_setCell_other _ _ _ _ (by simp), World.cell?_setCell_other _ _ _ _ (by simp)]; exact h.c2)
theorem Slot.s3 {w : World} {b : Nat} (h : Slot w b) (v0 v1 v2 v : Value) : ((((w.setCell ⟨b, 0, none⟩ v0).setCell ⟨b, 1, none⟩ v1).setCell ⟨b, 2, none⟩ v2).setCell ⟨b, 3, none⟩ v).cell? ⟨b, 3, none⟩ = some v :=
  World.cell?_setCell_same _ _ _ (by rw [World.cell?_setCell_other _ _ _ _ (by simp), World.cell?_setCell_other _ _ _ _ (by simp), World.cell?_setCell_other _ _ _ _ (by simp)]; exact h.c3)
theorem bel_slot {a w : World} {b : Nat} (h : Below a.heap.size a w) (hb : a.heap.size ≤ b) (v0 v1 v2 v3 : Value) : Below a.heap.size a ((((w.setCell ⟨b, 0, none⟩ v0).setCell ⟨b, 1, none⟩ v1).setCell ⟨b, 2, none⟩ v2).setCell ⟨b, 3, none⟩ v3) :=
  (((h.setCell (p := ⟨b, 0, none⟩) hb _).setCell (p := ⟨b, 1, none⟩) hb _).setCell (p := ⟨b, 2, none⟩) hb _).setCell (p := ⟨b, 3, none⟩) hb _
/-- where the first 0 stands -/
def zAt (x : List UInt8) : Nat := (x.takeWhile (· != 0)).length
theorem zAt_le (x : List UInt8) : zAt x ≤ x.length := by
  unfold zAt
  induction x with
  | nil => simp
  | cons a x ih =>
    rw [List.takeWhile_cons]
    split <;> simp <;> omega
theorem index_z (x : List UInt8) : Lib.indexByte x 0 = if zAt x < x.length then (zAt x : Int) else -1 := by
  induction x with
  | nil => rfl
  | cons a x ih =>
    show (if (a == 0) = true then (0 : Int) else if Lib.indexByte x 0 == -1 then -1 else Lib.indexByte x 0 + 1) = _
    by_cases h : a = 0
    · subst h
      rfl
    · have e1 : (a == 0) = false := by rw [beq_eq_false_iff_ne]; exact h
      have e2 : (a != 0) = true := by rw [bne, e1]; rfl
      have e3 : zAt (a :: x) = zAt x + 1 := by unfold zAt; rw [List.takeWhile_cons, e2, if_pos rfl, List.length_cons]
      rw [e1, if_neg (by decide), e3, List.length_cons, ih]
      by_cases hl : zAt x < x.length
      · have : ((zAt x : Int) == -1) = false := by rw [beq_eq_false_iff_ne]; omega
        rw [if_pos hl, this, if_neg (by decide), if_pos (by omega)]
        omega
      · rw [if_neg hl, if_pos (by decide), if_neg (by omega)]
def fText (x : List UInt8) : Option (V × List UInt8) :=
  if zAt x < x.length then (if (⟨2, 0, str (x.take (zAt x)), false⟩ : V).right then some (⟨2, 0, str (x.take (zAt x)), false⟩, x.drop (zAt x + 1)) else none) else none
theorem index_any (x : List UInt8) (A : Option Addr) (n c : Nat) (w : World) (hx : Sl w w.heap.size 1 A n c (u8s x)) :
    Calls Tryd.prog 65 #[.slice A n c, .int .u8 0] w fun e w' => e = .returned (.int .i64 (if zAt x < x.length then (zAt x : Int) else -1)) ∧ w = w' := by
  have hl := len_of hx
  rw [← index_z]
  cases A with
  | none =>
    have hc := hx.nil rfl
    have hn : n = 0 := by have := hx.le; omega
    have : x = [] := List.eq_nil_of_length_eq_zero (by omega)
    subst this hn hc
    exact (Tryd.bytes_IndexByte_nil 0 w).mono fun e w' ⟨he, hw⟩ => ⟨he, hw.symm⟩
  | some ad =>
    have hb : Lib.bytesOf (x.map fun b => (b.toNat : Int)) = x := by
      unfold Lib.bytesOf
      rw [List.map_map]
      conv => rhs; rw [← List.map_id x]
      apply List.map_congr_left
      intro b _
      simp
    have h := Tryd.bytes_IndexByte_at ad n c (x.map fun b => (b.toNat : Int)) 0 w (by rw [List.length_map]; exact hl) (fun i hi => by
      obtain ⟨ad', e, hAt⟩ := hx.at_ (by omega)
      injection e with e
      subst e
      obtain ⟨b', hb'⟩ : ∃ b', x[i]? = some b' := ⟨_, List.getElem?_eq_getElem (by omega)⟩
      rw [u8s_at hAt hb']
      congr 2
      simp [List.getD, List.getElem?_map, hb'])
    rw [hb] at h
    exact h.mono fun e w' ⟨he, hw⟩ => ⟨he, hw.symm⟩
theorem firstText_any (B : Nat) (x : List UInt8) (A : Option Addr) (n c : Nat) (w : World) (hB : B ≤ w.heap.size) (hn : n ≤ 1000000) (hx : Sl w B 1 A n c (u8s x)) (hU : U8 w) :
    Calls Tryd.prog 57 #[.slice A n c] w (FPost B (fText x) w) := by
  have hl := len_of hx
  have hcap := hx.cap
  unfold maxLen at hcap
  have hle := hx.le
  have CI := Lib.hid (index_any x A n c (w.alloc (.cells #[.int .u8 0, .int .i64 0, .string ⟨#[]⟩, .bool false] 43)) ((hx.more hB).on (Cell.bel_alloc _ _)))
  have hz := zAt_le x
  by_cases hf : zAt x < x.length
  rotate_left
  · have HF : Hid (fText x = none) := Lib.hid (if_neg hf)
    rw [if_neg hf] at CI
    clear hx hl hU hf hz
    go_enter Tryd.func57, Tryd.ntmps57
    go_wp2_with fail
    refine CI.out.mono ?_
    rintro e w' ⟨rfl, rfl⟩
    go_wp2_with fail
    rw [HF.out]
    exact bodyPost_ret (v := .tuple #[.agg #[.int .u8 0, .int .i64 0, .string ⟨#[]⟩, .bool false], .slice none 0 0, .bool false]) (by simp [results, Tryd.results57, go_sem]) rfl ⟨Cell.bel_alloc _ _, rfl⟩
  · obtain ⟨z, hzz⟩ : ∃ z, zAt x = z := ⟨_, rfl⟩
    rw [if_pos hf] at CI
    rw [hzz] at CI hf
    obtain ⟨m, rfl⟩ : ∃ m, n = m + (z + 1) := ⟨n - (z + 1), by omega⟩
    have hzc : (z : Int) ≤ c := by omega
    have hzn : (z : Int) + 1 ≤ (m : Int) + ((z : Int) + 1) := by omega
    obtain ⟨ad, hA, hAt⟩ := hx.at_ (by omega)
    subst hA
    have hst : (str (x.take z)).size ≤ maxLen := by
      show (x.take z).toArray.size ≤ _
      rw [List.size_toArray, List.length_take]
      unfold maxLen
      omega
    have hxt := hx.take (k := z) (by omega)
    rw [Nat.mul_one, u8s_take] at hxt
    have hcv := conv_sl ((hxt.more hB).on (Cell.bel_alloc w (.cells #[.int .u8 0, .int .i64 0, .string ⟨#[]⟩, .bool false] 43)))
    obtain ⟨S, hS⟩ : ∃ S, str (x.take z) = S := ⟨_, rfl⟩
    rw [hS] at hcv hst
    obtain ⟨W1, hW1⟩ : ∃ W1, w.alloc (.cells #[.int .u8 0, .int .i64 0, .string ⟨#[]⟩, .bool false] 43) = W1 := ⟨_, rfl⟩
    have HSL1 : Hid (Slot W1 w.heap.size) := Lib.hid (by rw [← hW1]; exact slot_new w)
    have HB1 : Hid (Below w.heap.size w W1) := Lib.hid (by rw [← hW1]; exact Cell.bel_alloc _ _)
    have HU1 := Lib.hid (hU.below HB1.out)
    rw [hW1] at hcv CI
    have HCV := Lib.hid hcv
    have HT := Lib.hid hx.tl
    have HRL : Hid ((x.drop (z + 1)).length = m) := Lib.hid (by rw [List.length_drop]; omega)
    have HF : Hid (fText x = if (⟨2, 0, S, false⟩ : V).right then some (⟨2, 0, S, false⟩, x.drop (z + 1)) else none) := Lib.hid (by unfold fText; rw [hzz, if_pos hf, hS])
    have HW1 := Lib.hid hW1
    have HC := Lib.hid (Cell.cright_all 2 0 S false hst _ (HU1.out.below (Cell.bel_alloc W1 (.cells #[.int .u8 2, .int .i64 0, .string S, .bool false] 43))))
    clear hx hxt hAt hl hU hf hz hzz hS hst hcv hW1
    cases hr : Cell.rightB 2 0 S false
    · rw [hr] at HC
      have HF2 : Hid (fText x = none) := Lib.hid (by rw [HF.out]; exact if_neg (by show ¬ Cell.rightB 2 0 S false = true; rw [hr]; decide))
      clear hr HF
      go_enter Tryd.func57, Tryd.ntmps57
      go_wp2_with fail
      rw [HW1.out]
      refine CI.out.mono ?_
      rintro e w' ⟨rfl, rfl⟩
      have hcv := HCV.out
      go_wp2_with fail
      refine HC.out.mono ?_
      rintro e w3 ⟨rfl, hb3⟩
      have HSL3 := Lib.hid ((HSL1.out.below (Cell.bel_alloc _ _)).below hb3)
      have HB3 := Lib.hid (Cell.bel_trans HB1.out (Cell.bel_trans (Cell.bel_alloc _ _) hb3))
      clear hb3 hcv
      obtain ⟨z0, z1, z2, z3, f0, f1, f2, f3, hlt⟩ := HSL3.out
      go_wp2_with fail
      rw [HF2.out]
      exact bodyPost_ret (v := .tuple #[.agg #[.int .u8 0, .int .i64 0, .string ⟨#[]⟩, .bool false], .slice none 0 0, .bool false]) (by simp [results, Tryd.results57, go_sem, HSL3.out.s0, HSL3.out.s1, HSL3.out.s2, HSL3.out.s3]) rfl ⟨bel_slot HB3.out (Nat.le_refl _) _ _ _ _, rfl⟩
    · rw [hr] at HC
      have HF2 : Hid (fText x = some (⟨2, 0, S, false⟩, x.drop (z + 1))) := Lib.hid (by rw [HF.out]; exact if_pos hr)
      clear hr HF
      have HBX := ValAt.new W1 ⟨2, 0, S, false⟩ 43
      have HXX := Lib.hid HBX
      clear HBX
      by_cases hc1 : c = z + 1
      · subst hc1
        obtain rfl : m = 0 := by omega
        simp only [Nat.zero_add] at CI
        have et : tlA (some ad) (z + 1) (z + 1) = some ad := by unfold tlA; rw [if_pos rfl]
        rw [et, Nat.sub_self] at HT
        clear et
        go_enter Tryd.func57, Tryd.ntmps57
        go_wp2_with fail
        rw [HW1.out]
        refine CI.out.mono ?_
        rintro e w' ⟨rfl, rfl⟩
        have hcv := HCV.out
        go_wp2_with fail
        refine HC.out.mono ?_
        rintro e w3 ⟨rfl, hb3⟩
        have HSL3 := Lib.hid ((HSL1.out.below (Cell.bel_alloc _ _)).below hb3)
        have HB3 := Lib.hid (Cell.bel_trans HB1.out (Cell.bel_trans (Cell.bel_alloc _ _) hb3))
        obtain ⟨y0, y1, y2, y3⟩ := HXX.out.below (B := (W1.alloc (.cells #[.int .u8 2, .int .i64 0, .string S, .bool false] 43)).heap.size) (by rw [size_alloc]; show W1.heap.size < _; omega) hb3
        clear hb3 hcv
        obtain ⟨z0, z1, z2, z3, f0, f1, f2, f3, hlt⟩ := HSL3.out
        go_wp2_with fail
        go_region
        go_wp2_with fail
        rw [HF2.out]
        exact bodyPost_ret (v := .tuple #[.agg #[.int .u8 2, .int .i64 0, .string S, .bool false], .slice (some ad) 0 (0), .bool true]) (by simp [results, Tryd.results57, go_sem, HSL3.out.s0, HSL3.out.s1, HSL3.out.s2, HSL3.out.s3]) rfl ⟨(bel_slot HB3.out (Nat.le_refl _) _ _ _ _).drew, _, _, _, rfl, HRL.out, HT.out⟩
      · have et : tlA (some ad) c (z + 1) = some ⟨ad.block, ad.off + (z + 1), none⟩ := by unfold tlA; rw [if_neg hc1]; show some (ad.add (z + 1)) = _; rw [add_succ]
        rw [et] at HT
        clear et
        go_enter Tryd.func57, Tryd.ntmps57
        go_wp2_with fail
        rw [HW1.out]
        refine CI.out.mono ?_
        rintro e w' ⟨rfl, rfl⟩
        have hcv := HCV.out
        go_wp2_with fail
        refine HC.out.mono ?_
        rintro e w3 ⟨rfl, hb3⟩
        have HSL3 := Lib.hid ((HSL1.out.below (Cell.bel_alloc _ _)).below hb3)
        have HB3 := Lib.hid (Cell.bel_trans HB1.out (Cell.bel_trans (Cell.bel_alloc _ _) hb3))
        obtain ⟨y0, y1, y2, y3⟩ := HXX.out.below (B := (W1.alloc (.cells #[.int .u8 2, .int .i64 0, .string S, .bool false] 43)).heap.size) (by rw [size_alloc]; show W1.heap.size < _; omega) hb3
        clear hb3 hcv
        obtain ⟨z0, z1, z2, z3, f0, f1, f2, f3, hlt⟩ := HSL3.out
        go_wp2_with fail
        go_region
        go_wp2_with fail
        rw [HF2.out]
        exact bodyPost_ret (v := .tuple #[.agg #[.int .u8 2, .int .i64 0, .string S, .bool false], .slice (some ⟨ad.block, ad.off + (z + 1), none⟩) m (c - (z + 1)), .bool true]) (by simp [results, Tryd.results57, go_sem, HSL3.out.s0, HSL3.out.s1, HSL3.out.s2, HSL3.out.s3]) rfl ⟨(bel_slot HB3.out (Nat.le_refl _) _ _ _ _).drew, _, _, _, rfl, HRL.out, HT.out⟩
end Go.Proofs.YtfabcnbblhadnaaDoor.Mem
