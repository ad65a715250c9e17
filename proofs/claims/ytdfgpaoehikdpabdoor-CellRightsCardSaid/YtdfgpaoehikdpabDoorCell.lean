/- What the small functions of package cell give: a value opened, its rank, the order of two. -/
import Derived.Test.YtdfgpaoehikdpabDoorRows
import Derived.Test.YtdfgpaoehikdpabDoorNums
import Derived.Test.YtdfgpaoehikdpabDoorShelf
import Derived.WalkKit
import Derived.Lib.Hide
import Derived.Outline
import Derived.Below
import Derived.WalkSpells
import Derived.WalkLawsBesides
import Derived.Deep.RegionWith
import Derived.Deep.QuietTactic
import Derived.BigQuiet
import Derived.Lib.QuietBelow
namespace Go.Proofs.YtdfgpaoehikdpabDoor.Cell
open Go.RowKit Go.Proofs.YtdfgpaoehikdpabDoor.Nums
set_option linter.unusedVariables false
set_option maxRecDepth 100000

theorem bel_trans {a b c : World} (h : Below a.heap.size a b) (k : Below b.heap.size b c) : Below a.heap.size a c := h.trans (k.mono h.size)
theorem bel_alloc (w : World) (o : Obj) : Below w.heap.size w (w.alloc o) := (Below.refl _ _).alloc (Nat.le_refl _) o

theorem below_of_same {P : Program} {f : FuncId} {args : Array Value} {w : World} {v : Value} (h : Calls P f args w fun e w' => e = .returned v ∧ w = w') : Calls P f args w fun e w' => e = .returned v ∧ Below w.heap.size w w' :=
  h.mono fun _ _ ⟨he, hw⟩ => ⟨he, hw ▸ Below.refl _ _⟩
theorem cell_one (w : World) (cs : Array Value) (t : TypeId) (j : Nat) : (w.alloc (.cells cs t)).cell? ⟨w.heap.size, j, none⟩ = cs[j]? := by
  unfold World.cell?
  rw [show (w.alloc (.cells cs t)).heap[w.heap.size]? = some (.cells cs t) from (MapKept.heap_alloc w _).1]
  rfl
theorem cell_two (w : World) (cs : Array Value) (t : TypeId) (o : Obj) (j : Nat) : ((w.alloc (.cells cs t)).alloc o).cell? ⟨w.heap.size, j, none⟩ = cs[j]? := by
  unfold World.cell?
  rw [(MapKept.heap_alloc (w.alloc (.cells cs t)) o).2 w.heap.size (by show w.heap.size < (w.heap.push _).size; rw [Array.size_push]; omega), show (w.alloc (.cells cs t)).heap[w.heap.size]? = some (.cells cs t) from (MapKept.heap_alloc w _).1]
  rfl
theorem size_alloc (w : World) (o : Obj) : (w.alloc o).heap.size = w.heap.size + 1 := by show (w.heap.push _).size = _; rw [Array.size_push]
theorem cell_two' (w : World) (cs : Array Value) (t : TypeId) (o : Obj) (j : Nat) : ((w.alloc o).alloc (.cells cs t)).cell? ⟨w.heap.size + 1, j, none⟩ = cs[j]? := by
  rw [← size_alloc w o]; exact cell_one (w.alloc o) cs t j

/-- a value opened: nothing; truth, a number, a text; a value of no kind -/
inductive OV where
  | nil : OV
  | bool (b : Bool) : OV
  | int (i : Int) : OV
  | str (s : ByteArray) : OV
  | odd (k i : Int) (s : ByteArray) (b : Bool) : OV
def OV.val : OV → Value
  | .nil => .nilIface
  | .bool b => .iface 4 (.bool b)
  | .int i => .iface 2 (.int .i64 i)
  | .str s => .iface 9 (.string s)
  | .odd k i s b => .iface 24 (.agg #[.int .u8 k, .int .i64 i, .string s, .bool b])
def openV (k i : Int) (s : ByteArray) (b : Bool) : OV := if k = 0 then .nil else if k = 3 then .bool b else if k = 1 then .int i else if k = 2 then .str s else .odd k i s b

theorem open_nil (i : Int) (s : ByteArray) (b : Bool) (w : World) :
    Calls Tryd.prog 26 #[.agg #[.int .u8 0, .int .i64 i, .string s, .bool b]] w fun e w' => e = .returned .nilIface ∧ Below w.heap.size w w' := by
  go_enter Tryd.func26, Tryd.ntmps26
  go_wp2_with fail
  go_ret
  exact ⟨rfl, bel_alloc _ _⟩
theorem open_int (i : Int) (s : ByteArray) (b : Bool) (w : World) :
    Calls Tryd.prog 26 #[.agg #[.int .u8 1, .int .i64 i, .string s, .bool b]] w fun e w' => e = .returned (.iface 2 (.int .i64 i)) ∧ Below w.heap.size w w' := by
  go_enter Tryd.func26, Tryd.ntmps26
  go_wp2_with fail
  go_ret
  exact ⟨rfl, bel_alloc _ _⟩
theorem open_str (i : Int) (s : ByteArray) (b : Bool) (w : World) :
    Calls Tryd.prog 26 #[.agg #[.int .u8 2, .int .i64 i, .string s, .bool b]] w fun e w' => e = .returned (.iface 9 (.string s)) ∧ Below w.heap.size w w' := by
  go_enter Tryd.func26, Tryd.ntmps26
  go_wp2_with fail
  go_ret
  exact ⟨rfl, bel_alloc _ _⟩
theorem open_bool (i : Int) (s : ByteArray) (b : Bool) (w : World) :
    Calls Tryd.prog 26 #[.agg #[.int .u8 3, .int .i64 i, .string s, .bool b]] w fun e w' => e = .returned (.iface 4 (.bool b)) ∧ Below w.heap.size w w' := by
  go_enter Tryd.func26, Tryd.ntmps26
  go_wp2_with fail
  go_ret
  exact ⟨rfl, bel_alloc _ _⟩
theorem open_odd (k i : Int) (s : ByteArray) (b : Bool) (h0 : (k == 0) = false) (h1 : (k == 1) = false) (h2 : (k == 2) = false) (h3 : (k == 3) = false) (w : World) :
    Calls Tryd.prog 26 #[.agg #[.int .u8 k, .int .i64 i, .string s, .bool b]] w fun e w' => e = .returned (.iface 24 (.agg #[.int .u8 k, .int .i64 i, .string s, .bool b])) ∧ Below w.heap.size w w' := by
  go_enter Tryd.func26, Tryd.ntmps26
  go_wp2_with fail
  go_ret
  exact ⟨rfl, bel_alloc _ _⟩
theorem open_any (k i : Int) (s : ByteArray) (b : Bool) (w : World) :
    Calls Tryd.prog 26 #[.agg #[.int .u8 k, .int .i64 i, .string s, .bool b]] w fun e w' => e = .returned (openV k i s b).val ∧ Below w.heap.size w w' := by
  unfold openV
  by_cases h0 : k = 0
  · subst h0; exact open_nil i s b w
  rw [if_neg h0]
  by_cases h3 : k = 3
  · subst h3; exact open_bool i s b w
  rw [if_neg h3]
  by_cases h1 : k = 1
  · subst h1; exact open_int i s b w
  rw [if_neg h1]
  by_cases h2 : k = 2
  · subst h2; exact open_str i s b w
  rw [if_neg h2]
  exact open_odd k i s b (by simpa using h0) (by simpa using h1) (by simpa using h2) (by simpa using h3) w

/-- what an assertion gives, of each sort of value -/
theorem ta_bb (b : Bool) (w : World) : (Instr.typeAssert (.iface 4 (.bool b)) 20 4 true).run Tryd.prog w = .ok (.tuple #[.bool b, .bool true]) w := by kernel_rfl
theorem ta_bi (b : Bool) (w : World) : (Instr.typeAssert (.iface 4 (.bool b)) 20 2 true).run Tryd.prog w = .ok (.tuple #[.int .i64 0, .bool false]) w := by kernel_rfl
theorem ta_bs (b : Bool) (w : World) : (Instr.typeAssert (.iface 4 (.bool b)) 20 9 true).run Tryd.prog w = .ok (.tuple #[.string ⟨#[]⟩, .bool false]) w := by kernel_rfl
theorem tp_b (b : Bool) (w : World) : (Instr.typeAssert (.iface 4 (.bool b)) 20 4 false).run Tryd.prog w = .ok (.bool b) w := by kernel_rfl
theorem ta_ib (i : Int) (w : World) : (Instr.typeAssert (.iface 2 (.int .i64 i)) 20 4 true).run Tryd.prog w = .ok (.tuple #[.bool false, .bool false]) w := by kernel_rfl
theorem ta_ii (i : Int) (w : World) : (Instr.typeAssert (.iface 2 (.int .i64 i)) 20 2 true).run Tryd.prog w = .ok (.tuple #[.int .i64 i, .bool true]) w := by kernel_rfl
theorem ta_is (i : Int) (w : World) : (Instr.typeAssert (.iface 2 (.int .i64 i)) 20 9 true).run Tryd.prog w = .ok (.tuple #[.string ⟨#[]⟩, .bool false]) w := by kernel_rfl
theorem tp_i (i : Int) (w : World) : (Instr.typeAssert (.iface 2 (.int .i64 i)) 20 2 false).run Tryd.prog w = .ok (.int .i64 i) w := by kernel_rfl
theorem ta_sb (s : ByteArray) (w : World) : (Instr.typeAssert (.iface 9 (.string s)) 20 4 true).run Tryd.prog w = .ok (.tuple #[.bool false, .bool false]) w := by kernel_rfl
theorem ta_si (s : ByteArray) (w : World) : (Instr.typeAssert (.iface 9 (.string s)) 20 2 true).run Tryd.prog w = .ok (.tuple #[.int .i64 0, .bool false]) w := by kernel_rfl
theorem ta_ss (s : ByteArray) (w : World) : (Instr.typeAssert (.iface 9 (.string s)) 20 9 true).run Tryd.prog w = .ok (.tuple #[.string s, .bool true]) w := by kernel_rfl
theorem tp_s (s : ByteArray) (w : World) : (Instr.typeAssert (.iface 9 (.string s)) 20 9 false).run Tryd.prog w = .ok (.string s) w := by kernel_rfl
theorem ta_ob (k i : Int) (s : ByteArray) (b : Bool) (w : World) : (Instr.typeAssert (.iface 24 (.agg #[.int .u8 k, .int .i64 i, .string s, .bool b])) 20 4 true).run Tryd.prog w = .ok (.tuple #[.bool false, .bool false]) w := by kernel_rfl
theorem ta_oi (k i : Int) (s : ByteArray) (b : Bool) (w : World) : (Instr.typeAssert (.iface 24 (.agg #[.int .u8 k, .int .i64 i, .string s, .bool b])) 20 2 true).run Tryd.prog w = .ok (.tuple #[.int .i64 0, .bool false]) w := by kernel_rfl
theorem ta_os (k i : Int) (s : ByteArray) (b : Bool) (w : World) : (Instr.typeAssert (.iface 24 (.agg #[.int .u8 k, .int .i64 i, .string s, .bool b])) 20 9 true).run Tryd.prog w = .ok (.tuple #[.string ⟨#[]⟩, .bool false]) w := by kernel_rfl
theorem ta_nb (w : World) : (Instr.typeAssert .nilIface 20 4 true).run Tryd.prog w = .ok (.tuple #[.bool false, .bool false]) w := by kernel_rfl
theorem ta_ni (w : World) : (Instr.typeAssert .nilIface 20 2 true).run Tryd.prog w = .ok (.tuple #[.int .i64 0, .bool false]) w := by kernel_rfl
theorem ta_ns (w : World) : (Instr.typeAssert .nilIface 20 9 true).run Tryd.prog w = .ok (.tuple #[.string ⟨#[]⟩, .bool false]) w := by kernel_rfl
attribute [local go_sem] ta_nb ta_ni ta_ns ta_bb ta_bi ta_bs tp_b ta_ib ta_ii ta_is tp_i ta_sb ta_si ta_ss tp_s ta_ob ta_oi ta_os

def rankO : OV → Int
  | .nil => 0
  | .bool _ => 1
  | .int _ => 2
  | .str _ => 3
  | .odd .. => 4
theorem rank_any (o : OV) (w : World) :
    Calls Tryd.prog 31 #[o.val] w fun e w' => e = .returned (.int .i64 (rankO o)) ∧ w = w' := by
  cases o
  all_goals
    unfold OV.val
    go_enter Tryd.func31, Tryd.ntmps31
    go_wp2_with fail
    go_ret
    exact ⟨rfl, rfl⟩

def cmpI (x y : Int) : Int := if x < y then -1 else if y < x then 1 else 0
theorem cmp64 (x y : Int) (w : World) :
    Calls Tryd.prog 43 #[.int .i64 x, .int .i64 y] w fun e w' => e = .returned (.int .i64 (cmpI x y)) ∧ w = w' := by
  by_cases h : x < y
  · have HC : Hid (cmpI x y = -1) := Lib.hid (if_pos h)
    go_enter Tryd.func43, Tryd.ntmps43
    go_wp2
    go_ret
    exact ⟨by rw [HC.out]; rfl, rfl⟩
  · by_cases h2 : y < x
    · have HC : Hid (cmpI x y = 1) := Lib.hid ((if_neg h).trans (if_pos h2))
      go_enter Tryd.func43, Tryd.ntmps43
      go_wp2
      go_ret
      exact ⟨by rw [HC.out]; rfl, rfl⟩
    · have HC : Hid (cmpI x y = 0) := Lib.hid ((if_neg h).trans (if_neg h2))
      go_enter Tryd.func43, Tryd.ntmps43
      go_wp2
      go_ret
      exact ⟨by rw [HC.out]; rfl, rfl⟩
theorem cmpint (x y : Int) (w : World) :
    Calls Tryd.prog 41 #[.int .i64 x, .int .i64 y] w fun e w' => e = .returned (.int .i64 (cmpI x y)) ∧ w = w' := by
  by_cases h : x < y
  · have HC : Hid (cmpI x y = -1) := Lib.hid (if_pos h)
    go_enter Tryd.func41, Tryd.ntmps41
    go_wp2
    go_ret
    exact ⟨by rw [HC.out]; rfl, rfl⟩
  · by_cases h2 : y < x
    · have HC : Hid (cmpI x y = 1) := Lib.hid ((if_neg h).trans (if_pos h2))
      go_enter Tryd.func41, Tryd.ntmps41
      go_wp2
      go_ret
      exact ⟨by rw [HC.out]; rfl, rfl⟩
    · have HC : Hid (cmpI x y = 0) := Lib.hid ((if_neg h).trans (if_neg h2))
      go_enter Tryd.func41, Tryd.ntmps41
      go_wp2
      go_ret
      exact ⟨by rw [HC.out]; rfl, rfl⟩

def cmpB (x y : Bool) : Int := if x = y then 0 else if y then -1 else 1
theorem cmptruth (x y : Bool) (w : World) :
    Calls Tryd.prog 42 #[.bool x, .bool y] w fun e w' => e = .returned (.int .i64 (cmpB x y)) ∧ w = w' := by
  cases x <;> cases y
  all_goals
    go_enter Tryd.func42, Tryd.ntmps42
    go_wp2
    go_ret
    exact ⟨rfl, rfl⟩

def orderO (x y : OV) : Int := if rankO x = rankO y then (match x, y with
  | .bool a, .bool b => cmpB a b
  | .int a, .int b => cmpI a b
  | .str a, .str b => Go.Lib.compareBytes a.data.toList b.data.toList
  | _, _ => 0) else cmpI (rankO x) (rankO y)
theorem order_any (x y : OV) (w : World) :
    Calls Tryd.prog 30 #[x.val, y.val] w fun e w' => e = .returned (.int .i64 (orderO x y)) ∧ w = w' := by
  by_cases h : rankO x = rankO y
  · have hz : cmpI (rankO y) (rankO y) = 0 := by unfold cmpI; simp
    have hx : rankO x = rankO y := h
    have c1 : ∀ w, Calls Tryd.prog 31 #[x.val] w fun e w' => e = .returned (.int .i64 (rankO y)) ∧ w = w' := fun w => by rw [← h]; exact rank_any x w
    have c2 : ∀ w, Calls Tryd.prog 41 #[.int .i64 (rankO y), .int .i64 (rankO y)] w fun e w' => e = .returned (.int .i64 0) ∧ w = w' := fun w => by rw [← hz]; exact cmpint _ _ w
    have C1 := Lib.hid c1
    have C2 := Lib.hid c2
    have HX := Lib.hid hx
    clear c1 c2 h hx hz
    go_enter Tryd.func30, Tryd.ntmps30
    go_wp2_with fail
    refine (C1.out _).mono ?_
    rintro e w' ⟨rfl, rfl⟩
    go_wp2_with fail
    refine (rank_any _ _).mono ?_
    rintro e w' ⟨rfl, rfl⟩
    go_wp2_with fail
    refine (C2.out _).mono ?_
    rintro e w' ⟨rfl, rfl⟩
    have HX := HX.out
    cases x <;> cases y <;> simp only [rankO] at HX <;> first | (exfalso; revert HX; decide) | skip
    all_goals clear HX C1 C2
    all_goals unfold OV.val
    · go_wp2_with fail
      go_ret
      exact ⟨rfl, rfl⟩
    · go_wp2_with (go_at_call 42; refine (cmptruth _ _ _).mono ?_; rintro e w' ⟨rfl, rfl⟩)
      go_ret
      exact ⟨rfl, rfl⟩
    · go_wp2_with (go_at_call 43; refine (cmp64 _ _ _).mono ?_; rintro e w' ⟨rfl, rfl⟩)
      go_ret
      exact ⟨rfl, rfl⟩
    · go_wp2_with (go_at_call 44; refine (Tryd.strings_Compare _ _ _).mono ?_; rintro e w' ⟨rfl, rfl⟩)
      go_ret
      exact ⟨rfl, rfl⟩
    · go_wp2_with fail
      go_ret
      exact ⟨rfl, rfl⟩
  · have HO : Hid (orderO x y = cmpI (rankO x) (rankO y)) := Lib.hid (if_neg h)
    have hc : (cmpI (rankO x) (rankO y) == 0) = false := by
      unfold cmpI; split
      · rfl
      · split
        · rfl
        · exfalso; omega
    clear h
    go_enter Tryd.func30, Tryd.ntmps30
    go_wp2_with (first | (go_at_call 31; refine (rank_any _ _).mono ?_; rintro e w' ⟨rfl, rfl⟩) | (go_at_call 41; refine (cmpint _ _ _).mono ?_; rintro e w' ⟨rfl, rfl⟩))
    go_ret
    exact ⟨by rw [HO.out]; rfl, rfl⟩

end Go.Proofs.YtdfgpaoehikdpabDoor.Cell
