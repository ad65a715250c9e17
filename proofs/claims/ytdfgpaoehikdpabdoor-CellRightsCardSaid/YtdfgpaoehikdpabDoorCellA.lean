/- The library's tables in memory; a text's literal, by the library's contract; the examples that each law of layer 2 asks first. -/
import Derived.Test.YtdfgpaoehikdpabDoorCellN
import Derived.Test.YtdfgpaoehikdpabDoorCellR
import Derived.WalkSmall
namespace Go.Proofs.YtdfgpaoehikdpabDoor.Cell
open Go.RowKit Go.Proofs.YtdfgpaoehikdpabDoor.Nums
set_option linter.unusedVariables false
set_option maxRecDepth 100000
attribute [local go_sem] guard_nil ta_nb ta_bb ta_ib ta_sb ta_ob ta_ni ta_bi ta_ii ta_si ta_oi ta_ns ta_bs ta_is ta_ss ta_os

/-- what the library keeps in package variables, as far as the laws lean on it -/
structure Tabs (w : World) : Prop where
  pow : Go.Lib.TabIs Tryd.prog w "internal/strconv.uint64pow10" .u64 Go.Lib.pow10Tab
  most : ∃ m, w.cell? ⟨2, 0, none⟩ = some (.int .i64 m)
theorem gPow : Tryd.prog.globalNamed "internal/strconv.uint64pow10" = some 3 := by kernel_rfl
theorem Tabs.below {w w' : World} (h : Tabs w) (hb : Below w.heap.size w w') : Tabs w' := by
  refine ⟨var?_below hb gPow ?_ h.pow, ?_⟩
  · have h1 := h.pow
    unfold Go.Lib.TabIs World.var? at h1
    rw [gPow] at h1
    simp only [Option.bind_some] at h1
    by_cases hg : 3 < w.heap.size
    · exact hg
    · rw [Array.getElem?_eq_none (by omega)] at h1
      cases h1
  · obtain ⟨m, hm⟩ := h.most
    exact ⟨m, (hb.cell (block_lt_of_cell hm)).trans hm⟩

theorem quote_it (R : List UInt8) : ((({ data := #[39] } : ByteArray) ++ { data := R.toArray } : ByteArray) ++ { data := #[39] } : ByteArray) = { data := (39 :: (R ++ [39])).toArray } := by
  apply ByteArray.ext
  apply Array.ext'
  rw [ByteArray.data_append, ByteArray.data_append, Array.toList_append, Array.toList_append]
  rfl
/-- a text between two quotes, each quote of it twice -/
def litT (s : ByteArray) : List UInt8 := 39 :: (Go.Lib.replaceAll s.data.toList [39] [39, 39] ++ [39])
theorem lit_text (i : Int) (s : ByteArray) (b : Bool) (hs : s.size ≤ 60) (hc : Go.Lib.countB s ⟨#[39]⟩ ≤ 60) (hl : (litT s).length ≤ 200) (w : World) (hT : Tabs w) :
    Calls Tryd.prog 24 #[.agg #[.int .u8 2, .int .i64 i, .string s, .bool b]] w fun e w' => e = .returned (.string ⟨(litT s).toArray⟩) ∧ Below w.heap.size w w' := by
  obtain ⟨W, hW⟩ : ∃ W, w.alloc (.cells #[.int .u8 2, .int .i64 i, .string s, .bool b] 24) = W := ⟨_, rfl⟩
  have HB : Hid (Below w.heap.size w W) := Lib.hid (by rw [← hW]; exact bel_alloc _ _)
  have HT := Lib.hid (hT.below HB.out)
  have HW := Lib.hid hW
  have HC := Lib.hid hc
  have HL := Lib.hid hl
  have HS := Lib.hid hs
  clear hW hT hc hl
  go_enter Tryd.func24, Tryd.ntmps24
  go_wp2_with fail
  rw [HW.out]
  refine (open_str _ _ _ _).mono ?_
  rintro e w3 ⟨rfl, hb3⟩
  have HB3 := Lib.hid (bel_trans HB.out hb3)
  have HT3 := Lib.hid (HT.out.below hb3)
  clear hb3 HB HT HW
  go_wp2_with fail
  obtain ⟨m, hm⟩ := HT3.out.most
  have cR := Tryd.strings_ReplaceAll s ⟨#[39]⟩ ⟨#[39, 39]⟩ m w3 (by omega) hm (by decide) (by
    have h1 := HC.out
    have h2 : Go.Lib.countB s ⟨#[39]⟩ * (⟨#[39, 39]⟩ : ByteArray).size ≤ 60 * 2 := Nat.mul_le_mul h1 (by decide)
    omega)
  have CR := Lib.hid cR
  clear cR hm
  refine CR.out.mono ?_
  rintro e w4 ⟨rfl, hb4⟩
  have HB4 := Lib.hid (bel_trans HB3.out hb4)
  clear hb4
  have HR : Hid (litT s = 39 :: (Go.Lib.replaceAll s.data.toList [39] [39, 39] ++ [39])) := Lib.hid rfl
  have hr : (Go.Lib.replaceAll s.data.toList [39] [39, 39]).length ≤ 198 := by
    have := HL.out
    rw [HR.out] at this
    simp at this
    omega
  have e1 : (⟨#[39]⟩ : ByteArray).data.toList = [39] := rfl
  have e2 : (⟨#[39, 39]⟩ : ByteArray).data.toList = [39, 39] := rfl
  rw [e1, e2]
  clear e1 e2 CR HL HC
  generalize Go.Lib.replaceAll s.data.toList [39] [39, 39] = R at *
  go_wp2_with fail
  go_ret
  exact ⟨by rw [HR.out]; exact congrArg (fun b => Ending.returned (.string b)) (quote_it R), HB4.out⟩


def itS : ByteArray := ⟨#[105, 116, 39, 115]⟩
theorem awake_lit : litT itS = [39, 105, 116, 39, 39, 115, 39] := by decide +kernel
theorem awake_count : Go.Lib.countB itS ⟨#[39]⟩ ≤ 60 := by decide +kernel
theorem awake_any (w : World) (hT : Tabs w) :
    Calls Tryd.prog 9 #[] w fun e w' => e = .returned (.bool true) ∧ Below w.heap.size w w' := by
  have cA : ∀ w, Calls Tryd.prog 18 #[.agg #[.int .u8 0, .int .i64 0, .string ⟨#[]⟩, .bool false], .agg #[.int .u8 3, .int .i64 0, .string ⟨#[]⟩, .bool false]] w fun e w' => e = .returned (.tuple #[.agg #[.int .u8 3, .int .i64 0, .string ⟨#[]⟩, .bool false], .int .i64 0]) ∧ Below w.heap.size w w' := fun w => and_any 0 0 ⟨#[]⟩ false 3 0 ⟨#[]⟩ false w
  have cO : ∀ w, Calls Tryd.prog 21 #[.agg #[.int .u8 0, .int .i64 0, .string ⟨#[]⟩, .bool false], .agg #[.int .u8 3, .int .i64 0, .string ⟨#[]⟩, .bool false]] w fun e w' => e = .returned (.tuple #[.agg #[.int .u8 0, .int .i64 0, .string ⟨#[]⟩, .bool false], .int .i64 0]) ∧ Below w.heap.size w w' := fun w => or_any 0 0 ⟨#[]⟩ false 3 0 ⟨#[]⟩ false w
  have cC : ∀ w, Calls Tryd.prog 13 #[.agg #[.int .u8 1, .int .i64 1, .string ⟨#[]⟩, .bool false], .agg #[.int .u8 2, .int .i64 0, .string ⟨#[120]⟩, .bool false]] w fun e w' => e = .returned (.tuple #[.int .i64 0, .bool false, .int .i64 8]) ∧ Below w.heap.size w w' := fun w => compare_any 1 1 ⟨#[]⟩ false 2 0 ⟨#[120]⟩ false w
  have cL : ∀ w, Tabs w → Calls Tryd.prog 24 #[.agg #[.int .u8 2, .int .i64 0, .string ⟨#[105, 116, 39, 115]⟩, .bool false]] w fun e w' => e = .returned (.string ⟨#[39, 105, 116, 39, 39, 115, 39]⟩) ∧ Below w.heap.size w w' := fun w h => by
    have c := lit_text 0 itS false (by decide) awake_count (by rw [awake_lit]; decide) w h
    rw [awake_lit] at c
    exact c
  have HcA := Lib.hid cA
  have HcO := Lib.hid cO
  have HcC := Lib.hid cC
  have HcL := Lib.hid cL
  have HT := Lib.hid hT
  clear cA cO cC cL hT
  go_enter Tryd.func9, Tryd.ntmps9
  have HBel : Hid (Below w.heap.size w w) := Lib.hid (Below.refl _ _)
  have HTab := HT
  clear HT
  go_wp2_with fail
  have GF : Hid (Box (w.alloc (.cells #[.int .u8 3, .int .i64 0, .string ⟨#[]⟩, .bool false] 24)) (w.heap.size) 3 0 ⟨#[]⟩ false) := Lib.hid (box_new w 3 0 ⟨#[]⟩ false)
  have GBel : Hid (Below w.heap.size w (w.alloc (.cells #[.int .u8 3, .int .i64 0, .string ⟨#[]⟩, .bool false] 24))) := Lib.hid (bel_alloc2 HBel.out _)
  have GTab : Hid (Tabs (w.alloc (.cells #[.int .u8 3, .int .i64 0, .string ⟨#[]⟩, .bool false] 24))) := Lib.hid (HTab.out.below (bel_alloc _ _))
  refine (HcA.out _).mono ?_
  rintro e w1_ ⟨rfl, hb⟩
  have KF := Lib.hid (GF.out.below hb)
  have KBel := Lib.hid (bel_trans GBel.out hb)
  have KTab := Lib.hid (GTab.out.below hb)
  clear hb  HBel HTab GF GBel GTab
  skip
  have HF := KF
  have HBel := KBel
  have HTab := KTab
  clear KBel KTab KF
  have fF0 := HF.out.c0
  have fF1 := HF.out.c1
  have fF2 := HF.out.c2
  have fF3 := HF.out.c3
  have fF4 := HF.out.lt
  go_wp2_with fail
  have GF : Hid (Box (w1_.alloc (.cells #[.int .u8 3, .int .i64 0, .string ⟨#[]⟩, .bool false] 24)) (w.heap.size) 3 0 ⟨#[]⟩ false) := Lib.hid (box_up HF.out _)
  have GA : Hid (Box (w1_.alloc (.cells #[.int .u8 3, .int .i64 0, .string ⟨#[]⟩, .bool false] 24)) (w1_.heap.size) 3 0 ⟨#[]⟩ false) := Lib.hid (box_new w1_ 3 0 ⟨#[]⟩ false)
  have GBel : Hid (Below w.heap.size w (w1_.alloc (.cells #[.int .u8 3, .int .i64 0, .string ⟨#[]⟩, .bool false] 24))) := Lib.hid (bel_alloc2 HBel.out _)
  have GTab : Hid (Tabs (w1_.alloc (.cells #[.int .u8 3, .int .i64 0, .string ⟨#[]⟩, .bool false] 24))) := Lib.hid (HTab.out.below (bel_alloc _ _))
  refine (HcO.out _).mono ?_
  rintro e w2_ ⟨rfl, hb⟩
  have KF := Lib.hid (GF.out.below hb)
  have KA := Lib.hid (GA.out.below hb)
  have KBel := Lib.hid (bel_trans GBel.out hb)
  have KTab := Lib.hid (GTab.out.below hb)
  clear hb HF HBel HTab GF GA GBel GTab
  try clear fF0 fF1 fF2 fF3 fF4
  have HF := KF
  have HA := KA
  have HBel := KBel
  have HTab := KTab
  clear KBel KTab KF KA
  have fF0 := HF.out.c0
  have fF1 := HF.out.c1
  have fF2 := HF.out.c2
  have fF3 := HF.out.c3
  have fF4 := HF.out.lt
  have fA0 := HA.out.c0
  have fA1 := HA.out.c1
  have fA2 := HA.out.c2
  have fA3 := HA.out.c3
  have fA4 := HA.out.lt
  go_wp2_with fail
  have GF : Hid (Box (w2_.alloc (.cells #[.int .u8 0, .int .i64 0, .string ⟨#[]⟩, .bool false] 24)) (w.heap.size) 3 0 ⟨#[]⟩ false) := Lib.hid (box_up HF.out _)
  have GA : Hid (Box (w2_.alloc (.cells #[.int .u8 0, .int .i64 0, .string ⟨#[]⟩, .bool false] 24)) (w1_.heap.size) 3 0 ⟨#[]⟩ false) := Lib.hid (box_up HA.out _)
  have GB : Hid (Box (w2_.alloc (.cells #[.int .u8 0, .int .i64 0, .string ⟨#[]⟩, .bool false] 24)) (w2_.heap.size) 0 0 ⟨#[]⟩ false) := Lib.hid (box_new w2_ 0 0 ⟨#[]⟩ false)
  have GBel : Hid (Below w.heap.size w (w2_.alloc (.cells #[.int .u8 0, .int .i64 0, .string ⟨#[]⟩, .bool false] 24))) := Lib.hid (bel_alloc2 HBel.out _)
  have GTab : Hid (Tabs (w2_.alloc (.cells #[.int .u8 0, .int .i64 0, .string ⟨#[]⟩, .bool false] 24))) := Lib.hid (HTab.out.below (bel_alloc _ _))
  refine (HcC.out _).mono ?_
  rintro e w3_ ⟨rfl, hb⟩
  have KF := Lib.hid (GF.out.below hb)
  have KA := Lib.hid (GA.out.below hb)
  have KB := Lib.hid (GB.out.below hb)
  have KBel := Lib.hid (bel_trans GBel.out hb)
  have KTab := Lib.hid (GTab.out.below hb)
  clear hb HF HA HBel HTab GF GA GB GBel GTab
  try clear fF0 fF1 fF2 fF3 fF4 fA0 fA1 fA2 fA3 fA4
  have HF := KF
  have HA := KA
  have HB := KB
  have HBel := KBel
  have HTab := KTab
  clear KBel KTab KF KA KB
  have fF0 := HF.out.c0
  have fF1 := HF.out.c1
  have fF2 := HF.out.c2
  have fF3 := HF.out.c3
  have fF4 := HF.out.lt
  have fA0 := HA.out.c0
  have fA1 := HA.out.c1
  have fA2 := HA.out.c2
  have fA3 := HA.out.c3
  have fA4 := HA.out.lt
  have fB0 := HB.out.c0
  have fB1 := HB.out.c1
  have fB2 := HB.out.c2
  have fB3 := HB.out.c3
  have fB4 := HB.out.lt
  go_wp2_with fail
  have GF : Hid (Box w3_ (w.heap.size) 3 0 ⟨#[]⟩ false) := Lib.hid HF.out
  have GA : Hid (Box w3_ (w1_.heap.size) 3 0 ⟨#[]⟩ false) := Lib.hid HA.out
  have GB : Hid (Box w3_ (w2_.heap.size) 0 0 ⟨#[]⟩ false) := Lib.hid HB.out
  have GBel : Hid (Below w.heap.size w w3_) := Lib.hid HBel.out
  have GTab : Hid (Tabs w3_) := Lib.hid HTab.out
  refine (HcL.out _ GTab.out).mono ?_
  rintro e w4_ ⟨rfl, hb⟩
  have KF := Lib.hid (GF.out.below hb)
  have KA := Lib.hid (GA.out.below hb)
  have KB := Lib.hid (GB.out.below hb)
  have KBel := Lib.hid (bel_trans GBel.out hb)
  have KTab := Lib.hid (GTab.out.below hb)
  clear hb HF HA HB HBel HTab GF GA GB GBel GTab
  try clear fF0 fF1 fF2 fF3 fF4 fA0 fA1 fA2 fA3 fA4 fB0 fB1 fB2 fB3 fB4
  have HF := KF
  have HA := KA
  have HB := KB
  have HBel := KBel
  have HTab := KTab
  clear KBel KTab KF KA KB
  have fF0 := HF.out.c0
  have fF1 := HF.out.c1
  have fF2 := HF.out.c2
  have fF3 := HF.out.c3
  have fF4 := HF.out.lt
  have fA0 := HA.out.c0
  have fA1 := HA.out.c1
  have fA2 := HA.out.c2
  have fA3 := HA.out.c3
  have fA4 := HA.out.lt
  have fB0 := HB.out.c0
  have fB1 := HB.out.c1
  have fB2 := HB.out.c2
  have fB3 := HB.out.c3
  have fB4 := HB.out.lt
  go_wp2_with fail
  go_ret
  exact ⟨rfl, HBel.out⟩
end Go.Proofs.YtdfgpaoehikdpabDoor.Cell
