/- Picked by program out of XCell. -/
import Derived.Test.YtfabcnbblhadnaaDoorRows
import Derived.Test.YtfabcnbblhadnaaDoorNums
import Derived.Test.YtfabcnbblhadnaaDoorShelf
import Derived.WalkKit
import Derived.Lib.Hide
import Derived.Outline
import Derived.Below
import Derived.WalkSpells
import Derived.WalkLawsBesides
import Derived.Deep.RegionWith
import Derived.Deep.QuietTactic
import Derived.BigQuiet
import Derived.Lib.QuietBelow
namespace Go.Proofs.YtfabcnbblhadnaaDoor.Cell
open Go.RowKit Go.Proofs.YtfabcnbblhadnaaDoor.Nums
set_option linter.unusedVariables false
set_option maxRecDepth 100000
theorem bel_trans {a b c : World} (h : Below a.heap.size a b) (k : Below b.heap.size b c) : Below a.heap.size a c := h.trans (k.mono h.size)
theorem bel_alloc (w : World) (o : Obj) : Below w.heap.size w (w.alloc o) := (Below.refl _ _).alloc (Nat.le_refl _) o
theorem cell_one (w : World) (cs : Array Value) (t : TypeId) (j : Nat) : (w.alloc (.cells cs t)).cell? ⟨w.heap.size, j, none⟩ = cs[j]? := by
  unfold World.cell?
  rw [show (w.alloc (.cells cs t)).heap[w.heap.size]? = some (.cells cs t) from (MapKept.heap_alloc w _).1]
  rfl
theorem size_alloc (w : World) (o : Obj) : (w.alloc o).heap.size = w.heap.size + 1 := by show (w.heap.push _).size = _; rw [Array.size_push]
/-- a value opened: nothing; truth, a number, a text; a value of no kind -/
inductive OV where
  | nil : OV
  | bool (b : Bool) : OV
  | int (i : Int) : OV
  | str (s : ByteArray) : OV
  | odd (k i : Int) (s : ByteArray) (b : Bool) : OV
def OV.val : OV → Value
  | .nil => .nilIface
  | .bool b => .iface 4 (.bool b)
  | .int i => .iface 2 (.int .i64 i)
  | .str s => .iface 9 (.string s)
  | .odd k i s b => .iface 43 (.agg #[.int .u8 k, .int .i64 i, .string s, .bool b])
theorem open_nil (i : Int) (s : ByteArray) (b : Bool) (w : World) :
    Calls Tryd.prog 51 #[.agg #[.int .u8 0, .int .i64 i, .string s, .bool b]] w fun e w' => e = .returned .nilIface ∧ Below w.heap.size w w' := by
  go_enter Tryd.func51, Tryd.ntmps51
  go_wp2_with fail
  go_ret
  exact ⟨rfl, bel_alloc _ _⟩
theorem open_int (i : Int) (s : ByteArray) (b : Bool) (w : World) :
    Calls Tryd.prog 51 #[.agg #[.int .u8 1, .int .i64 i, .string s, .bool b]] w fun e w' => e = .returned (.iface 2 (.int .i64 i)) ∧ Below w.heap.size w w' := by
  go_enter Tryd.func51, Tryd.ntmps51
  go_wp2_with fail
  go_ret
  exact ⟨rfl, bel_alloc _ _⟩
theorem open_str (i : Int) (s : ByteArray) (b : Bool) (w : World) :
    Calls Tryd.prog 51 #[.agg #[.int .u8 2, .int .i64 i, .string s, .bool b]] w fun e w' => e = .returned (.iface 9 (.string s)) ∧ Below w.heap.size w w' := by
  go_enter Tryd.func51, Tryd.ntmps51
  go_wp2_with fail
  go_ret
  exact ⟨rfl, bel_alloc _ _⟩
theorem open_bool (i : Int) (s : ByteArray) (b : Bool) (w : World) :
    Calls Tryd.prog 51 #[.agg #[.int .u8 3, .int .i64 i, .string s, .bool b]] w fun e w' => e = .returned (.iface 4 (.bool b)) ∧ Below w.heap.size w w' := by
  go_enter Tryd.func51, Tryd.ntmps51
  go_wp2_with fail
  go_ret
  exact ⟨rfl, bel_alloc _ _⟩
theorem open_odd (k i : Int) (s : ByteArray) (b : Bool) (h0 : (k == 0) = false) (h1 : (k == 1) = false) (h2 : (k == 2) = false) (h3 : (k == 3) = false) (w : World) :
    Calls Tryd.prog 51 #[.agg #[.int .u8 k, .int .i64 i, .string s, .bool b]] w fun e w' => e = .returned (.iface 43 (.agg #[.int .u8 k, .int .i64 i, .string s, .bool b])) ∧ Below w.heap.size w w' := by
  go_enter Tryd.func51, Tryd.ntmps51
  go_wp2_with fail
  go_ret
  exact ⟨rfl, bel_alloc _ _⟩
/-- what an assertion gives, of each sort of value -/
theorem ta_bb (b : Bool) (w : World) : (Instr.typeAssert (.iface 4 (.bool b)) 20 4 true).run Tryd.prog w = .ok (.tuple #[.bool b, .bool true]) w := by kernel_rfl
theorem ta_bi (b : Bool) (w : World) : (Instr.typeAssert (.iface 4 (.bool b)) 20 2 true).run Tryd.prog w = .ok (.tuple #[.int .i64 0, .bool false]) w := by kernel_rfl
theorem ta_bs (b : Bool) (w : World) : (Instr.typeAssert (.iface 4 (.bool b)) 20 9 true).run Tryd.prog w = .ok (.tuple #[.string ⟨#[]⟩, .bool false]) w := by kernel_rfl
theorem tp_b (b : Bool) (w : World) : (Instr.typeAssert (.iface 4 (.bool b)) 20 4 false).run Tryd.prog w = .ok (.bool b) w := by kernel_rfl
theorem ta_ib (i : Int) (w : World) : (Instr.typeAssert (.iface 2 (.int .i64 i)) 20 4 true).run Tryd.prog w = .ok (.tuple #[.bool false, .bool false]) w := by kernel_rfl
theorem ta_ii (i : Int) (w : World) : (Instr.typeAssert (.iface 2 (.int .i64 i)) 20 2 true).run Tryd.prog w = .ok (.tuple #[.int .i64 i, .bool true]) w := by kernel_rfl
theorem ta_is (i : Int) (w : World) : (Instr.typeAssert (.iface 2 (.int .i64 i)) 20 9 true).run Tryd.prog w = .ok (.tuple #[.string ⟨#[]⟩, .bool false]) w := by kernel_rfl
theorem tp_i (i : Int) (w : World) : (Instr.typeAssert (.iface 2 (.int .i64 i)) 20 2 false).run Tryd.prog w = .ok (.int .i64 i) w := by kernel_rfl
theorem ta_sb (s : ByteArray) (w : World) : (Instr.typeAssert (.iface 9 (.string s)) 20 4 true).run Tryd.prog w = .ok (.tuple #[.bool false, .bool false]) w := by kernel_rfl
theorem ta_si (s : ByteArray) (w : World) : (Instr.typeAssert (.iface 9 (.string s)) 20 2 true).run Tryd.prog w = .ok (.tuple #[.int .i64 0, .bool false]) w := by kernel_rfl
theorem ta_ss (s : ByteArray) (w : World) : (Instr.typeAssert (.iface 9 (.string s)) 20 9 true).run Tryd.prog w = .ok (.tuple #[.string s, .bool true]) w := by kernel_rfl
theorem tp_s (s : ByteArray) (w : World) : (Instr.typeAssert (.iface 9 (.string s)) 20 9 false).run Tryd.prog w = .ok (.string s) w := by kernel_rfl
theorem ta_ob (k i : Int) (s : ByteArray) (b : Bool) (w : World) : (Instr.typeAssert (.iface 43 (.agg #[.int .u8 k, .int .i64 i, .string s, .bool b])) 20 4 true).run Tryd.prog w = .ok (.tuple #[.bool false, .bool false]) w := by kernel_rfl
theorem ta_oi (k i : Int) (s : ByteArray) (b : Bool) (w : World) : (Instr.typeAssert (.iface 43 (.agg #[.int .u8 k, .int .i64 i, .string s, .bool b])) 20 2 true).run Tryd.prog w = .ok (.tuple #[.int .i64 0, .bool false]) w := by kernel_rfl
theorem ta_os (k i : Int) (s : ByteArray) (b : Bool) (w : World) : (Instr.typeAssert (.iface 43 (.agg #[.int .u8 k, .int .i64 i, .string s, .bool b])) 20 9 true).run Tryd.prog w = .ok (.tuple #[.string ⟨#[]⟩, .bool false]) w := by kernel_rfl
theorem ta_nb (w : World) : (Instr.typeAssert .nilIface 20 4 true).run Tryd.prog w = .ok (.tuple #[.bool false, .bool false]) w := by kernel_rfl
theorem ta_ni (w : World) : (Instr.typeAssert .nilIface 20 2 true).run Tryd.prog w = .ok (.tuple #[.int .i64 0, .bool false]) w := by kernel_rfl
theorem ta_ns (w : World) : (Instr.typeAssert .nilIface 20 9 true).run Tryd.prog w = .ok (.tuple #[.string ⟨#[]⟩, .bool false]) w := by kernel_rfl
attribute [local go_sem] ta_nb ta_ni ta_ns ta_bb ta_bi ta_bs tp_b ta_ib ta_ii ta_is tp_i ta_sb ta_si ta_ss tp_s ta_ob ta_oi ta_os
end Go.Proofs.YtfabcnbblhadnaaDoor.Cell
