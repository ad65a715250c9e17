/- Truth in three values, and what the functions give of it. -/
import Derived.Test.YtdfgpaoehikdpabDoorCellA
import Derived.Test.YtdfgpaoehikdpabDoorCellW
namespace Go.Proofs.YtdfgpaoehikdpabDoor.Cell
open Go.RowKit Go.Proofs.YtdfgpaoehikdpabDoor.Nums
set_option linter.unusedVariables false
set_option maxRecDepth 100000

def ot : Option Bool → OV
  | none => .nil
  | some b => .bool b
def tK : Option Bool → Int
  | none => 0
  | some _ => 3
def tB : Option Bool → Bool
  | none => false
  | some b => b
def andT : Option Bool → Option Bool → Option Bool
  | some false, _ => some false
  | _, some false => some false
  | some true, some true => some true
  | _, _ => none
def orT : Option Bool → Option Bool → Option Bool
  | some true, _ => some true
  | _, some true => some true
  | some false, some false => some false
  | _, _ => none
def notT : Option Bool → Option Bool
  | none => none
  | some b => some (!b)
theorem morganT (a b : Option Bool) : notT (andT a b) = orT (notT a) (notT b) := by rcases a with _ | ⟨_ | _⟩ <;> rcases b with _ | ⟨_ | _⟩ <;> rfl
theorem notT_notT (a : Option Bool) : notT (notT a) = a := by rcases a with _ | ⟨_ | _⟩ <;> rfl
theorem open_ot (t : Option Bool) : openV (tK t) 0 ⟨#[]⟩ (tB t) = ot t := by rcases t with _ | b <;> rfl
theorem isT_ot {o : OV} (h : isT o = true) : ∃ t, o = ot t := by
  cases o with
  | nil => exact ⟨none, rfl⟩
  | bool b => exact ⟨some b, rfl⟩
  | int _ => cases h
  | str _ => cases h
  | odd _ _ _ _ => cases h
theorem and_ot (a b : Option Bool) : joinK (ot a) (ot b) false = tK (andT a b) ∧ joinB (ot a) (ot b) false = tB (andT a b) ∧ joinE (ot a) (ot b) = 0 := by
  rcases a with _ | ⟨_ | _⟩ <;> rcases b with _ | ⟨_ | _⟩ <;> exact ⟨rfl, rfl, rfl⟩
theorem or_ot (a b : Option Bool) : joinK (ot a) (ot b) true = tK (orT a b) ∧ joinB (ot a) (ot b) true = tB (orT a b) ∧ joinE (ot a) (ot b) = 0 := by
  rcases a with _ | ⟨_ | _⟩ <;> rcases b with _ | ⟨_ | _⟩ <;> exact ⟨rfl, rfl, rfl⟩
theorem not_ot (a : Option Bool) : notK (ot a) = tK (notT a) ∧ notB (ot a) = tB (notT a) ∧ notE (ot a) = 0 := by
  rcases a with _ | ⟨_ | _⟩ <;> exact ⟨rfl, rfl, rfl⟩
theorem join_no {x y : OV} (c : Bool) (h : (isT x && isT y) = false) : joinK x y c = 0 ∧ joinB x y c = false ∧ joinE x y = 8 := by
  unfold joinK joinB joinE; rw [h]; exact ⟨rfl, rfl, rfl⟩
theorem not_no {x : OV} (h : isT x = false) : notK x = 0 ∧ notB x = false ∧ notE x = 8 := by
  cases x with
  | nil => cases h
  | bool _ => cases h
  | int _ => exact ⟨rfl, rfl, rfl⟩
  | str _ => exact ⟨rfl, rfl, rfl⟩
  | odd _ _ _ _ => exact ⟨rfl, rfl, rfl⟩
/-- the functions, of truth -/
theorem and_T (k1 i1 : Int) (s1 : ByteArray) (b1 : Bool) (k2 i2 : Int) (s2 : ByteArray) (b2 : Bool) (t1 t2 : Option Bool) (h1 : openV k1 i1 s1 b1 = ot t1) (h2 : openV k2 i2 s2 b2 = ot t2) (w : World) :
    Calls Tryd.prog 18 #[.agg #[.int .u8 k1, .int .i64 i1, .string s1, .bool b1], .agg #[.int .u8 k2, .int .i64 i2, .string s2, .bool b2]] w fun e w' => e = .returned (.tuple #[.agg #[.int .u8 (tK (andT t1 t2)), .int .i64 0, .string ⟨#[]⟩, .bool (tB (andT t1 t2))], .int .i64 0]) ∧ Below w.heap.size w w' := by
  have c := and_any k1 i1 s1 b1 k2 i2 s2 b2 w
  rw [h1, h2, (and_ot t1 t2).1, (and_ot t1 t2).2.1, (and_ot t1 t2).2.2] at c
  exact c
theorem or_T (k1 i1 : Int) (s1 : ByteArray) (b1 : Bool) (k2 i2 : Int) (s2 : ByteArray) (b2 : Bool) (t1 t2 : Option Bool) (h1 : openV k1 i1 s1 b1 = ot t1) (h2 : openV k2 i2 s2 b2 = ot t2) (w : World) :
    Calls Tryd.prog 21 #[.agg #[.int .u8 k1, .int .i64 i1, .string s1, .bool b1], .agg #[.int .u8 k2, .int .i64 i2, .string s2, .bool b2]] w fun e w' => e = .returned (.tuple #[.agg #[.int .u8 (tK (orT t1 t2)), .int .i64 0, .string ⟨#[]⟩, .bool (tB (orT t1 t2))], .int .i64 0]) ∧ Below w.heap.size w w' := by
  have c := or_any k1 i1 s1 b1 k2 i2 s2 b2 w
  rw [h1, h2, (or_ot t1 t2).1, (or_ot t1 t2).2.1, (or_ot t1 t2).2.2] at c
  exact c
theorem not_T (k i : Int) (s : ByteArray) (b : Bool) (t : Option Bool) (h : openV k i s b = ot t) (w : World) :
    Calls Tryd.prog 19 #[.agg #[.int .u8 k, .int .i64 i, .string s, .bool b]] w fun e w' => e = .returned (.tuple #[.agg #[.int .u8 (tK (notT t)), .int .i64 0, .string ⟨#[]⟩, .bool (tB (notT t))], .int .i64 0]) ∧ Below w.heap.size w w' := by
  have c := not_any k i s b w
  rw [h, (not_ot t).1, (not_ot t).2.1, (not_ot t).2.2] at c
  exact c
theorem and_N (k1 i1 : Int) (s1 : ByteArray) (b1 : Bool) (k2 i2 : Int) (s2 : ByteArray) (b2 : Bool) (h : (isT (openV k1 i1 s1 b1) && isT (openV k2 i2 s2 b2)) = false) (w : World) :
    Calls Tryd.prog 18 #[.agg #[.int .u8 k1, .int .i64 i1, .string s1, .bool b1], .agg #[.int .u8 k2, .int .i64 i2, .string s2, .bool b2]] w fun e w' => e = .returned (.tuple #[.agg #[.int .u8 0, .int .i64 0, .string ⟨#[]⟩, .bool false], .int .i64 8]) ∧ Below w.heap.size w w' := by
  have c := and_any k1 i1 s1 b1 k2 i2 s2 b2 w
  rw [(join_no false h).1, (join_no false h).2.1, (join_no false h).2.2] at c
  exact c
theorem not_N (k i : Int) (s : ByteArray) (b : Bool) (h : isT (openV k i s b) = false) (w : World) :
    Calls Tryd.prog 19 #[.agg #[.int .u8 k, .int .i64 i, .string s, .bool b]] w fun e w' => e = .returned (.tuple #[.agg #[.int .u8 0, .int .i64 0, .string ⟨#[]⟩, .bool false], .int .i64 8]) ∧ Below w.heap.size w w' := by
  have c := not_any k i s b w
  rw [(not_no h).1, (not_no h).2.1, (not_no h).2.2] at c
  exact c
end Go.Proofs.YtdfgpaoehikdpabDoor.Cell
