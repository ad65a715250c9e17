/- The document's answers for values: places, truths as numbers, and back. -/
import Derived.Test.YtdfgpaoehikdpacDoorCellT
namespace Go.Proofs.YtdfgpaoehikdpacDoor.Cell
open Go.RowKit Go.Proofs.YtdfgpaoehikdpacDoor.Nums
set_option linter.unusedVariables false
set_option maxRecDepth 100000

/-- a value in a block of its own -/
structure Box (w : World) (x : Nat) (k i : Int) (s : ByteArray) (b : Bool) : Prop where
  c0 : w.cell? ⟨x, 0, none⟩ = some (.int .u8 k)
  c1 : w.cell? ⟨x, 1, none⟩ = some (.int .i64 i)
  c2 : w.cell? ⟨x, 2, none⟩ = some (.string s)
  c3 : w.cell? ⟨x, 3, none⟩ = some (.bool b)
  lt : x < w.heap.size
theorem Box.below {w w' : World} {x : Nat} {k i : Int} {s : ByteArray} {b : Bool} (h : Box w x k i s b) (hb : Below w.heap.size w w') : Box w' x k i s b :=
  ⟨(hb.cell h.lt).trans h.c0, (hb.cell h.lt).trans h.c1, (hb.cell h.lt).trans h.c2, (hb.cell h.lt).trans h.c3, Nat.lt_of_lt_of_le h.lt hb.size⟩
theorem box_new (w : World) (k i : Int) (s : ByteArray) (b : Bool) : Box (w.alloc (.cells #[.int .u8 k, .int .i64 i, .string s, .bool b] 24)) w.heap.size k i s b :=
  ⟨cell_one _ _ _ 0, cell_one _ _ _ 1, cell_one _ _ _ 2, cell_one _ _ _ 3, by rw [size_alloc]; omega⟩
theorem box_up {w : World} {x : Nat} {k i : Int} {s : ByteArray} {b : Bool} (h : Box w x k i s b) (o : Obj) : Box (w.alloc o) x k i s b := h.below (bel_alloc _ _)

def placeR (k : Int) (b : Bool) : Int := if k = 3 then (if b then 2 else 1) else if k = 1 then 3 else if k = 2 then 4 else 0
theorem place_any (k i : Int) (s : ByteArray) (b : Bool) (w : World) :
    Calls Tryd.prog 31 #[.agg #[.int .u8 k, .int .i64 i, .string s, .bool b]] w fun e w' => e = .returned (.int .i64 (placeR k b)) ∧ Below w.heap.size w w' := by
  have HP : Hid (∀ r, placeR k b = r → placeR k b = r) := Lib.hid (fun _ h => h)
  clear HP
  by_cases h3 : k = 3
  · subst h3
    cases b
    · have HP : Hid (placeR 3 false = 1) := Lib.hid rfl
      go_enter Tryd.func31, Tryd.ntmps31
      go_wp2_with fail
      go_ret
      exact ⟨by rw [HP.out]; rfl, bel_alloc _ _⟩
    · have HP : Hid (placeR 3 true = 2) := Lib.hid rfl
      go_enter Tryd.func31, Tryd.ntmps31
      go_wp2_with fail
      go_ret
      exact ⟨by rw [HP.out]; rfl, bel_alloc _ _⟩
  by_cases h1 : k = 1
  · subst h1
    have HP : Hid (placeR 1 b = 3) := Lib.hid rfl
    go_enter Tryd.func31, Tryd.ntmps31
    go_wp2_with fail
    go_ret
    exact ⟨by rw [HP.out]; rfl, bel_alloc _ _⟩
  by_cases h2 : k = 2
  · subst h2
    have HP : Hid (placeR 2 b = 4) := Lib.hid rfl
    go_enter Tryd.func31, Tryd.ntmps31
    go_wp2_with fail
    go_ret
    exact ⟨by rw [HP.out]; rfl, bel_alloc _ _⟩
  have HP : Hid (placeR k b = 0) := Lib.hid (by unfold placeR; rw [if_neg h3, if_neg h1, if_neg h2])
  have g1 : (k == 1) = false := by simpa using h1
  have g2 : (k == 2) = false := by simpa using h2
  have g3 : (k == 3) = false := by simpa using h3
  clear h1 h2 h3
  go_enter Tryd.func31, Tryd.ntmps31
  go_wp2_with fail
  go_ret
  exact ⟨by rw [HP.out]; rfl, bel_alloc _ _⟩

end Go.Proofs.YtdfgpaoehikdpacDoor.Cell
