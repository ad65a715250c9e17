/- The document's answers for values: places, truths as numbers, and back. -/
import Derived.Test.YtdfgpaoehikdpabDoorCellT
namespace Go.Proofs.YtdfgpaoehikdpabDoor.Cell
open Go.RowKit Go.Proofs.YtdfgpaoehikdpabDoor.Nums
set_option linter.unusedVariables false
set_option maxRecDepth 100000

/-- a value in a block of its own -/
structure Box (w : World) (x : Nat) (k i : Int) (s : ByteArray) (b : Bool) : Prop where
  c0 : w.cell? ⟨x, 0, none⟩ = some (.int .u8 k)
  c1 : w.cell? ⟨x, 1, none⟩ = some (.int .i64 i)
  c2 : w.cell? ⟨x, 2, none⟩ = some (.string s)
  c3 : w.cell? ⟨x, 3, none⟩ = some (.bool b)
  lt : x < w.heap.size
theorem Box.below {w w' : World} {x : Nat} {k i : Int} {s : ByteArray} {b : Bool} (h : Box w x k i s b) (hb : Below w.heap.size w w') : Box w' x k i s b :=
  ⟨(hb.cell h.lt).trans h.c0, (hb.cell h.lt).trans h.c1, (hb.cell h.lt).trans h.c2, (hb.cell h.lt).trans h.c3, Nat.lt_of_lt_of_le h.lt hb.size⟩
theorem box_new (w : World) (k i : Int) (s : ByteArray) (b : Bool) : Box (w.alloc (.cells #[.int .u8 k, .int .i64 i, .string s, .bool b] 24)) w.heap.size k i s b :=
  ⟨cell_one _ _ _ 0, cell_one _ _ _ 1, cell_one _ _ _ 2, cell_one _ _ _ 3, by rw [size_alloc]; omega⟩
theorem box_up {w : World} {x : Nat} {k i : Int} {s : ByteArray} {b : Bool} (h : Box w x k i s b) (o : Obj) : Box (w.alloc o) x k i s b := h.below (bel_alloc _ _)

def placeR (k : Int) (b : Bool) : Int := if k = 3 then (if b then 2 else 1) else if k = 1 then 3 else if k = 2 then 4 else 0
theorem place_any (k i : Int) (s : ByteArray) (b : Bool) (w : World) :
    Calls Tryd.prog 32 #[.agg #[.int .u8 k, .int .i64 i, .string s, .bool b]] w fun e w' => e = .returned (.int .i64 (placeR k b)) ∧ Below w.heap.size w w' := by
  have HP : Hid (∀ r, placeR k b = r → placeR k b = r) := Lib.hid (fun _ h => h)
  clear HP
  by_cases h3 : k = 3
  · subst h3
    cases b
    · have HP : Hid (placeR 3 false = 1) := Lib.hid rfl
      go_enter Tryd.func32, Tryd.ntmps32
      go_wp2_with fail
      go_ret
      exact ⟨by rw [HP.out]; rfl, bel_alloc _ _⟩
    · have HP : Hid (placeR 3 true = 2) := Lib.hid rfl
      go_enter Tryd.func32, Tryd.ntmps32
      go_wp2_with fail
      go_ret
      exact ⟨by rw [HP.out]; rfl, bel_alloc _ _⟩
  by_cases h1 : k = 1
  · subst h1
    have HP : Hid (placeR 1 b = 3) := Lib.hid rfl
    go_enter Tryd.func32, Tryd.ntmps32
    go_wp2_with fail
    go_ret
    exact ⟨by rw [HP.out]; rfl, bel_alloc _ _⟩
  by_cases h2 : k = 2
  · subst h2
    have HP : Hid (placeR 2 b = 4) := Lib.hid rfl
    go_enter Tryd.func32, Tryd.ntmps32
    go_wp2_with fail
    go_ret
    exact ⟨by rw [HP.out]; rfl, bel_alloc _ _⟩
  have HP : Hid (placeR k b = 0) := Lib.hid (by unfold placeR; rw [if_neg h3, if_neg h1, if_neg h2])
  have g1 : (k == 1) = false := by simpa using h1
  have g2 : (k == 2) = false := by simpa using h2
  have g3 : (k == 3) = false := by simpa using h3
  clear h1 h2 h3
  go_enter Tryd.func32, Tryd.ntmps32
  go_wp2_with fail
  go_ret
  exact ⟨by rw [HP.out]; rfl, bel_alloc _ _⟩

def threeR (k : Int) (b : Bool) : Int := if k = 0 then 1 else if k = 3 then (if b then 2 else 0) else -1
theorem three_any (k i : Int) (s : ByteArray) (b : Bool) (w : World) :
    Calls Tryd.prog 34 #[.agg #[.int .u8 k, .int .i64 i, .string s, .bool b]] w fun e w' => e = .returned (.int .i64 (threeR k b)) ∧ Below w.heap.size w w' := by
  by_cases h0 : k = 0
  · subst h0
    have HP : Hid (threeR 0 b = 1) := Lib.hid rfl
    go_enter Tryd.func34, Tryd.ntmps34
    go_wp2_with fail
    go_ret
    exact ⟨by rw [HP.out]; rfl, bel_alloc _ _⟩
  by_cases h3 : k = 3
  · subst h3
    cases b
    · have HP : Hid (threeR 3 false = 0) := Lib.hid rfl
      go_enter Tryd.func34, Tryd.ntmps34
      go_wp2_with fail
      go_ret
      exact ⟨by rw [HP.out]; rfl, bel_alloc _ _⟩
    · have HP : Hid (threeR 3 true = 2) := Lib.hid rfl
      go_enter Tryd.func34, Tryd.ntmps34
      go_wp2_with fail
      go_ret
      exact ⟨by rw [HP.out]; rfl, bel_alloc _ _⟩
  have HP : Hid (threeR k b = -1) := Lib.hid (by unfold threeR; rw [if_neg h0, if_neg h3])
  have g0 : (k == 0) = false := by simpa using h0
  have g3 : (k == 3) = false := by simpa using h3
  clear h0 h3
  go_enter Tryd.func34, Tryd.ntmps34
  go_wp2_with fail
  go_ret
  exact ⟨by rw [HP.out]; rfl, bel_alloc _ _⟩

theorem truthR_any (b : Bool) (w : World) :
    Calls Tryd.prog 47 #[.bool b] w fun e w' => e = .returned (.agg #[.int .u8 3, .int .i64 0, .string ⟨#[]⟩, .bool b]) ∧ Below w.heap.size w w' := by
  go_enter Tryd.func47, Tryd.ntmps47
  go_wp2_with fail
  exact bodyPost_ret (v := .agg #[.int .u8 3, .int .i64 0, .string ⟨#[]⟩, .bool b]) (by simp [results, Tryd.results47, go_sem]) rfl ⟨rfl, by repeat (first | exact Below.refl _ _ | exact bel_alloc _ _)⟩
def backK (n : Int) : Int := if n = 1 then 0 else 3
def backB (n : Int) : Bool := if n = 1 then false else decide (n = 2)
theorem back_any (n : Int) (w : World) :
    Calls Tryd.prog 35 #[.int .i64 n] w fun e w' => e = .returned (.agg #[.int .u8 (backK n), .int .i64 0, .string ⟨#[]⟩, .bool (backB n)]) ∧ Below w.heap.size w w' := by
  by_cases h : n = 1
  · subst h
    go_enter Tryd.func35, Tryd.ntmps35
    go_wp2_with fail
    exact bodyPost_ret (v := .agg #[.int .u8 0, .int .i64 0, .string ⟨#[]⟩, .bool false]) (by simp [results, Tryd.results35, go_sem]) rfl ⟨rfl, by repeat (first | exact Below.refl _ _ | exact bel_alloc _ _)⟩
  · have HK : Hid (backK n = 3 ∧ backB n = (n == 2)) := Lib.hid (by unfold backK backB; rw [if_neg h, if_neg h]; refine ⟨rfl, ?_⟩; rw [Bool.eq_iff_iff]; simp)
    have g : (n == 1) = false := by simpa using h
    clear h
    obtain ⟨W, hW⟩ : ∃ W, w.alloc (.cells #[.int .u8 0, .int .i64 0, .string ⟨#[]⟩, .bool false] 24) = W := ⟨_, rfl⟩
    have HS := Lib.hid (slot_new w)
    rw [hW] at HS
    have HB : Hid (Below w.heap.size w W) := Lib.hid (by rw [← hW]; exact bel_alloc _ _)
    have HW := Lib.hid hW
    clear hW
    go_enter Tryd.func35, Tryd.ntmps35
    go_wp2_with fail
    rw [HW.out]
    refine (truthR_any _ _).mono ?_
    rintro e w3 ⟨rfl, hb3⟩
    have HS2 := Lib.hid (HS.out.below hb3)
    have HB3 := Lib.hid (bel_trans HB.out hb3)
    clear hb3 HS HW HB
    obtain ⟨z0, z1, z2, z3, f0, f1, f2, f3, hlt⟩ := HS2.out
    go_wp2_with fail
    rw [HK.out.1, HK.out.2]
    exact bodyPost_ret (v := .agg #[.int .u8 3, .int .i64 0, .string ⟨#[]⟩, .bool (n == 2)]) (by simp [results, Tryd.results35, go_sem, HS2.out.s0, HS2.out.s1, HS2.out.s2, HS2.out.s3]) rfl ⟨rfl, bel_set HB3.out (by omega) _ _ _ _⟩
end Go.Proofs.YtdfgpaoehikdpabDoor.Cell
