/- lapidarylaw03.awake: the document's examples hold. -/
import Derived.Test.YtfabcnbblhadnaaDoorBehind
namespace Go.Proofs.YtfabcnbblhadnaaDoor.Mem
open Go.RowKit Go.Proofs.YtfabcnbblhadnaaDoor.Nums
open Go.Proofs.YtfabcnbblhadnaaDoor.Cell (U8)
set_option linter.unusedVariables false
set_option linter.unusedSimpArgs false
set_option maxRecDepth 100000
def ToldOk (l : List V) (w : World) (e : Ending) (w' : World) : Prop :=
  ∃ A c, e = .returned (.tuple #[.slice A (rowBytes l).length c, .int .i64 0]) ∧ OwnB w' w.heap.size (.slice A (rowBytes l).length c) (rowBytes l).length (u8s (rowBytes l)) ∧ Below w.heap.size w w'
theorem kbytes_ok (l : List V) (hr : l.all V.right = true) (A : Option Addr) (n c : Nat) (w : World) (hn : l.length = n) (hn12 : n ≤ 12) (ha : Sl w w.heap.size 4 A n c (vals l)) (hok : ∀ v ∈ l, v.ok) (hU : U8 w) :
    Calls Tryd.prog 16 #[.slice A n c] w (ToldOk l w) :=
  (kbytes_any l A n c w hn hn12 ha hok hU).mono fun e w' ⟨hb, h⟩ => by
    rcases h with ⟨_, p, he, ho⟩ | ⟨hf, _⟩
    · obtain ⟨A', c', hp, hs⟩ := Sl.of_own ho
      subst hp
      exact ⟨A', c', he, ho, hb⟩
    · rw [hr] at hf; cases hf
theorem kbytes_no (l : List V) (hr : l.all V.right = false) (A : Option Addr) (n c : Nat) (w : World) (hn : l.length = n) (hn12 : n ≤ 12) (ha : Sl w w.heap.size 4 A n c (vals l)) (hok : ∀ v ∈ l, v.ok) (hU : U8 w) :
    Calls Tryd.prog 16 #[.slice A n c] w fun e w' => e = .returned (.tuple #[.slice none 0 0, .int .i64 3]) ∧ Below w.heap.size w w' :=
  (kbytes_any l A n c w hn hn12 ha hok hU).mono fun e w' ⟨hb, h⟩ => by
    rcases h with ⟨ht, _⟩ | ⟨_, he⟩
    · rw [hr] at ht; cases ht
    · exact ⟨he, hb⟩
def ex1 : List V := [⟨2, 0, ⟨#[97]⟩, false⟩, ⟨0, 0, ⟨#[]⟩, false⟩]
def ex2 : List V := [⟨1, -1, ⟨#[]⟩, false⟩]
theorem ex1_right : ex1.all V.right = true := by kernel_rfl
theorem ex2_right : ex2.all V.right = true := by kernel_rfl
theorem ex1_bytes : rowBytes ex1 = [4, 97, 0, 1] := by kernel_rfl
theorem ex2_bytes : rowBytes ex2 = [3, 127, 255, 255, 255, 255, 255, 255, 255] := by kernel_rfl
theorem ex1_ok : ∀ v ∈ ex1, v.ok := by
  intro v hv
  simp [ex1] at hv
  rcases hv with rfl | rfl <;> exact ⟨by unfold Nums.In64; decide, by unfold maxLen; decide⟩
theorem ex2_ok : ∀ v ∈ ex2, v.ok := by
  intro v hv
  simp [ex2] at hv
  rcases hv with rfl
  exact ⟨by unfold Nums.In64; decide, by unfold maxLen; decide⟩
theorem beh_ex {y : List UInt8} (h : Beh [1, 255] y) : y = [2] := by
  obtain ⟨k, hk, hall, ⟨rfl, rfl⟩ | ⟨m, b, rfl, hb, hb2, rfl⟩⟩ := h
  · have := hall 0 (Nat.le_refl _) (by decide)
    simp at this
  · have hm : m = 0 ∨ m = 1 := by simp at hk; omega
    rcases hm with rfl | rfl
    · simp at hb; subst hb; rfl
    · simp at hb; subst hb; simp at hb2
theorem awake_k (w : World) (hU : U8 w) : Calls Tryd.prog 15 #[] w fun e w' => e = .returned (.bool true) ∧ Below w.heap.size w w' := by
  have HU := Lib.hid hU
  clear hU
  go_enter Tryd.func15, Tryd.ntmps15
  go_wp2_with fail
  refine (kbytes_ok ex1 ex1_right (some ⟨w.heap.size, 0, none⟩) 2 2 _ rfl (by omega) (Sl.lit w _ _ 4 2 _ rfl rfl (by unfold maxLen; omega)) ex1_ok (HU.out.below (Cell.bel_alloc _ _))).mono ?_
  rintro e w1 ⟨A1, c1, rfl, hown1, hb1⟩
  rw [ex1_bytes] at hown1 ⊢
  have HB1 := Lib.hid (Cell.bel_trans (Cell.bel_alloc w _) hb1)
  obtain ⟨A1', c1', he, hs1⟩ := Sl.of_own hown1
  injection he with e1 e2 e3
  subst e1 e3
  have HS1 := Lib.hid hs1
  clear hown1 hs1 hb1 e2
  go_wp2_with fail
  refine (kbytes_ok ex2 ex2_right (some ⟨w1.heap.size, 0, none⟩) 1 1 _ rfl (by omega) (Sl.lit w1 _ _ 4 1 _ rfl rfl (by unfold maxLen; omega)) ex2_ok ((HU.out.below HB1.out).below (Cell.bel_alloc _ _))).mono ?_
  rintro e w2 ⟨A2, c2, rfl, hown2, hb2⟩
  rw [ex2_bytes] at hown2 ⊢
  have HB2 := Lib.hid (Cell.bel_trans (Cell.bel_alloc w1 _) hb2)
  obtain ⟨g, cap, hv, hgB, hgl⟩ := World.ownsRow.form hown2 (by show 0 < 9; omega)
  injection hv with e1 e2 e3
  subst e1 e3
  have HQ : Hid (w2.cell? ⟨g, 1, none⟩ = some (.int .u8 127)) := Lib.hid (by rw [World.ownsRow.cellAt hown2 1 (by show 1 < 9 * 1; omega)]; rfl)
  have HS2 := Lib.hid (HS1.out.on HB2.out)
  clear hown2 hb2 HS1 hgB e2
  go_wp2_with fail
  refine (same_any [4, 97, 0, 1] [4, 97, 0, 1] A1 4 c1 (some ⟨w2.heap.size, 0, none⟩) 4 4 _ (HS2.out.on (Cell.bel_alloc _ _)) (Sl.lit w2 _ _ 1 4 _ rfl rfl (by unfold maxLen; omega))).mono ?_
  rintro e w3 ⟨rfl, rfl⟩
  have q0 : (w2.alloc (.cells #[.int .u8 4, .int .u8 97, .int .u8 0, .int .u8 1] 5)).cell? ⟨g, 1, none⟩ = some (.int .u8 127) := ((Cell.bel_alloc w2 _).cell (p := ⟨g, 1, none⟩) hgl).trans HQ.out
  go_wp2_with fail
  refine (behind_any [1, 255] (some ⟨w2.heap.size + 1, 0, none⟩) 2 2 _ (Sl.lit (w2.alloc (.cells #[.int .u8 4, .int .u8 97, .int .u8 0, .int .u8 1] 5)) _ _ 1 2 _ (size_alloc _ _) rfl (by unfold maxLen; omega)) (by omega)).mono ?_
  rintro e w4 ⟨v4, y, rfl, hbeh, hown4, hb4⟩
  obtain rfl := beh_ex hbeh
  obtain ⟨A4, c4, rfl, hs4⟩ := Sl.of_own hown4
  have HS4 := Lib.hid hs4
  have HB4 := Lib.hid (Cell.bel_trans (Cell.bel_alloc w2 _) (Cell.bel_trans (Cell.bel_alloc _ _) hb4))
  clear hs4 hown4 hb4 hbeh q0
  go_wp2_with fail
  refine (same_any [2] [2] A4 1 c4 (some ⟨w4.heap.size, 0, none⟩) 1 1 _ (HS4.out.on (Cell.bel_alloc _ _)) (Sl.lit w4 _ _ 1 1 _ rfl rfl (by unfold maxLen; omega))).mono ?_
  rintro e w5 ⟨rfl, rfl⟩
  go_wp2_with fail
  go_ret
  exact ⟨rfl, Cell.bel_trans HB1.out (Cell.bel_trans HB2.out (Cell.bel_trans HB4.out (Cell.bel_alloc _ _)))⟩
end Go.Proofs.YtfabcnbblhadnaaDoor.Mem
