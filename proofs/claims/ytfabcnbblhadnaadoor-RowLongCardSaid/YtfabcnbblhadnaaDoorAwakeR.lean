/- lapidarylaw04.awake: the document's examples hold. -/
import Derived.Test.YtfabcnbblhadnaaDoorRowB
import Derived.Test.YtfabcnbblhadnaaDoorRef3
namespace Go.Proofs.YtfabcnbblhadnaaDoor.Mem
open Go.RowKit Go.Proofs.YtfabcnbblhadnaaDoor.Nums
open Go.Proofs.YtfabcnbblhadnaaDoor.Cell (U8)
set_option linter.unusedVariables false
set_option linter.unusedSimpArgs false
set_option maxRecDepth 100000
def RToldOk (l : List V) (w : World) (e : Ending) (w' : World) : Prop :=
  ∃ A c, e = .returned (.tuple #[.slice A (rSize l) c, .int .i64 0]) ∧ OwnB w' w.heap.size (.slice A (rSize l) c) (rSize l) (u8s (rowL l)) ∧ Sl w' w'.heap.size 1 A (rSize l) c (u8s (rowL l)) ∧ Below w.heap.size w w'
theorem rbytes_ok (ks : List UInt8) (l : List V) (hf : fitsE ks l = 0) (A : Option Addr) (n c : Nat) (A' : Option Addr) (n' c' : Nat) (w : World) (hn : ks.length = n) (hl : l.length = n') (hk : Sl w w.heap.size 1 A n c (u8s ks)) (hx : Sl w w.heap.size 4 A' n' c' (vals l)) (hok : ∀ v ∈ l, v.ok) (hU : U8 w) :
    Calls Tryd.prog 32 #[.slice A n c, .slice A' n' c'] w (RToldOk l w) :=
  (rbytes_any ks l A n c A' n' c' w hn hl hk hx hok hU).mono fun e w' ⟨hb, h⟩ => by
    rcases h with ⟨_, p, he, ho⟩ | ⟨hne, _⟩
    · obtain ⟨A2, c2, hp, hs⟩ := Sl.of_own ho
      subst hp
      exact ⟨A2, c2, he, ho, hs, hb⟩
    · exact absurd hf hne
theorem rbytes_no (ks : List UInt8) (l : List V) (F : Int) (hF : fitsE ks l = F) (hf : F ≠ 0) (A : Option Addr) (n c : Nat) (A' : Option Addr) (n' c' : Nat) (w : World) (hn : ks.length = n) (hl : l.length = n') (hk : Sl w w.heap.size 1 A n c (u8s ks)) (hx : Sl w w.heap.size 4 A' n' c' (vals l)) (hok : ∀ v ∈ l, v.ok) (hU : U8 w) :
    Calls Tryd.prog 32 #[.slice A n c, .slice A' n' c'] w fun e w' => e = .returned (.tuple #[.slice none 0 0, .int .i64 F]) ∧ Below w.heap.size w w' :=
  (rbytes_any ks l A n c A' n' c' w hn hl hk hx hok hU).mono fun e w' ⟨hb, h⟩ => by
    rcases h with ⟨hz, _⟩ | ⟨_, he⟩
    · exact absurd (hF.symm.trans hz) hf
    · exact ⟨by rw [he, hF], hb⟩
def rx1 : List V := [⟨1, 1, ⟨#[]⟩, false⟩, ⟨2, 0, ⟨#[97]⟩, false⟩]
def rx2 : List V := [⟨0, 0, ⟨#[]⟩, false⟩, ⟨0, 0, ⟨#[]⟩, false⟩]
theorem rx1_fits : fitsE [1, 2] rx1 = 0 := by kernel_rfl
theorem rx2_fits : fitsE [1, 2] rx2 = 0 := by kernel_rfl
theorem rx1_bytes : rowL rx1 = [0, 1, 0, 0, 0, 0, 0, 0, 0, 1, 97] := by kernel_rfl
theorem rx2_bytes : rowL rx2 = [3] := by kernel_rfl
theorem rx1_size : rSize rx1 = 11 := by kernel_rfl
theorem rx2_size : rSize rx2 = 1 := by kernel_rfl
theorem rx1_ok : ∀ v ∈ rx1, v.ok := by
  intro v hv
  simp [rx1] at hv
  rcases hv with rfl | rfl <;> exact ⟨by unfold Nums.In64; decide, by unfold maxLen; decide⟩
theorem rx2_ok : ∀ v ∈ rx2, v.ok := by
  intro v hv
  simp [rx2] at hv
  rcases hv with rfl | rfl <;> exact ⟨by unfold Nums.In64; decide, by unfold maxLen; decide⟩
theorem make_v2 (w : World) : (Instr.makeSlice 22 (.int .i64 2) (.int .i64 2)).run Tryd.prog w = .ok (.slice (some ⟨w.heap.size, 0, none⟩) 2 2) (w.alloc (.cells #[.int .u8 0, .int .i64 0, .string ⟨#[]⟩, .bool false, .int .u8 0, .int .i64 0, .string ⟨#[]⟩, .bool false] 43)) := by kernel_rfl
theorem awake_r (w : World) (hU : U8 w) : Calls Tryd.prog 31 #[] w fun e w' => e = .returned (.bool true) ∧ Below w.heap.size w w' := by
  have HU := Lib.hid hU
  clear hU
  have hmk := fun w => make_v2 w
  go_enter Tryd.func31, Tryd.ntmps31
  go_wp2_with fail
  obtain ⟨W, hW⟩ : ∃ W, w.alloc (.cells #[.int .u8 1, .int .u8 2] 41) = W := ⟨_, rfl⟩
  have HKS : Hid (Sl W W.heap.size 1 (some ⟨w.heap.size, 0, none⟩) 2 2 (u8s [1, 2])) := Lib.hid (by rw [← hW]; exact Sl.lit w _ _ 1 2 _ rfl rfl (by unfold maxLen; omega))
  have HBW : Hid (Below w.heap.size w W) := Lib.hid (by rw [← hW]; exact Cell.bel_alloc _ _)
  have HSZ : Hid (W.heap.size = w.heap.size + 1) := Lib.hid (by rw [← hW]; exact size_alloc _ _)
  rw [hW]
  clear hW
  refine (rbytes_ok [1, 2] rx1 rx1_fits (some ⟨w.heap.size, 0, none⟩) 2 2 (some ⟨w.heap.size + 1, 0, none⟩) 2 2 _ rfl rfl (HKS.out.on (Cell.bel_alloc _ _)) (Sl.lit W _ _ 4 2 _ HSZ.out rfl (by unfold maxLen; omega)) rx1_ok ((HU.out.below HBW.out).below (Cell.bel_alloc _ _))).mono ?_
  rintro e w1 ⟨A1, c1, rfl, hown1, hs1, hb1⟩
  rw [rx1_bytes, rx1_size] at hs1 hown1
  rw [rx1_size]
  have HB1 := Lib.hid (Cell.bel_trans (Cell.bel_alloc W _) hb1)
  have HS1 := Lib.hid hs1
  have HU1 := Lib.hid ((HU.out.below HBW.out).below HB1.out)
  have HKS1 := Lib.hid (HKS.out.on HB1.out)
  clear hown1 hs1 hb1
  go_wp2_with fail
  refine (rbytes_ok [1, 2] rx2 rx2_fits (some ⟨w.heap.size, 0, none⟩) 2 2 (some ⟨w1.heap.size, 0, none⟩) 2 2 _ rfl rfl (HKS1.out.on (Cell.bel_alloc _ _)) (Sl.lit w1 _ _ 4 2 _ rfl rfl (by unfold maxLen; omega)) rx2_ok (HU1.out.below (Cell.bel_alloc _ _))).mono ?_
  rintro e w2 ⟨A2, c2, rfl, hown2, hs2, hb2⟩
  rw [rx2_bytes, rx2_size] at hs2 hown2
  rw [rx2_size]
  have HB2 := Lib.hid (Cell.bel_trans (Cell.bel_alloc w1 _) hb2)
  have HS2 := Lib.hid hs2
  have HS1 := Lib.hid (HS1.out.on HB2.out)
  clear hown2 hs2 hb2 hmk
  go_wp2_with fail
  refine (same_any [0, 1, 0, 0, 0, 0, 0, 0, 0, 1, 97] [0, 1, 0, 0, 0, 0, 0, 0, 0, 1, 97] A1 11 c1 (some ⟨w2.heap.size, 0, none⟩) 11 11 _ (HS1.out.on (Cell.bel_alloc _ _)) (Sl.lit w2 _ _ 1 11 _ rfl rfl (by unfold maxLen; omega))).mono ?_
  rintro e w3 ⟨rfl, rfl⟩
  go_wp2_with fail
  refine (same_any [3] [3] A2 1 c2 (some ⟨w2.heap.size + 1, 0, none⟩) 1 1 _ ((HS2.out.on (Cell.bel_alloc _ _)).on (Cell.bel_alloc _ _)) (Sl.lit (w2.alloc _) _ _ 1 1 _ (size_alloc _ _) rfl (by unfold maxLen; omega))).mono ?_
  rintro e w4 ⟨rfl, rfl⟩
  go_wp2_with fail
  go_ret
  exact ⟨rfl, Cell.bel_trans HBW.out (Cell.bel_trans HB1.out (Cell.bel_trans HB2.out (Cell.bel_trans (Cell.bel_alloc _ _) (Cell.bel_alloc _ _))))⟩
end Go.Proofs.YtfabcnbblhadnaaDoor.Mem
