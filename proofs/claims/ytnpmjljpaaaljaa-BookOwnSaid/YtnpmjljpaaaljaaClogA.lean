/- package slices at numbers of 64 bits: BinarySearch, Clone, Delete. -/
import Derived.Test.YtnpmjljpaaaljaaBase
import Derived.Test.YtnpmjljpaaaljaaClogM
import Derived.Deep.RegionLaw
import Derived.Deep.LoopGhost
import Derived.Lib.SliceRun
import Derived.Lib.SlicesDelete
namespace Go.Proofs.Ytnpmjljpaaaljaa.Clg
open Go.RowKit Go.Proofs.Ytnpmjljpaaaljaa.Nums Go.Proofs.Ytnpmjljpaaaljaa.Mem
set_option linter.unusedVariables false
set_option linter.unusedSimpArgs false
set_option maxRecDepth 100000
theorem infoU : (Try.prog.info? 28).map (fun i => (i.zero, i.size, i.bytes)) = some (some (.int .u64 0), 1, 8) := by kernel_rfl
def u64s (l : List Nat) : List Value := l.map fun x : Nat => Value.int .u64 (x : Int)
theorem u64s_len (l : List Nat) : (u64s l).length = l.length := by simp [u64s]
theorem u64s_at {l : List Nat} {k x : Nat} (h : l[k]? = some x) : (u64s l)[k]? = some (.int .u64 (x : Int)) := by simp [u64s, h]
theorem u64s_app (a b : List Nat) : u64s (a ++ b) = u64s a ++ u64s b := by simp [u64s]
theorem u64s_one (l : List Nat) : ∀ u ∈ u64s l, u.oneCell' = true := by
  intro u hu
  simp only [u64s, List.mem_map] at hu
  obtain ⟨b, _, rfl⟩ := hu
  rfl
def OwnU (w : World) (B : Nat) (v : Value) (n : Nat) (xs : List Value) : Prop := w.ownsRow B 28 1 v n xs
theorem OwnU.alloc {w : World} {B : Nat} {v : Value} {n : Nat} {xs : List Value} (h : OwnU w B v n xs) (o : Obj) : OwnU (w.alloc o) B v n xs := World.ownsRow.alloc h o
theorem own_eqU {w : World} {B : Nat} {v : Value} {n n' : Nat} {xs xs' : List Value} (h : OwnU w B v n xs) (hn : n = n') (hx : xs = xs') : OwnU w B v n' xs' := by subst hn hx; exact h
theorem wpl_app_u {w : World} {ops : Array Oper} {rest : List Oper} {o : Oper} {a : Act} {Q : Exit → Act → World → Prop} (hgd : o.guard = none) (s x : Operand)
    (ho : o.op = .call { callee := .builtin .append, args := #[s, x], argTypes := #[46, 46] })
    (base : Nat) (v : Value) (n : Nat) (xs : List Value) (hs : a.eval s = v) (hown : OwnU w base v n xs)
    (B : Nat) (y : Value) (m : Nat) (news : List Value) (hy : a.eval x = y) (hx : Lies w B 1 y m news) (h1 : ∀ u ∈ news, u.oneCell' = true)
    (hbytes : n + m ≤ 10000000000000) (hbase : base ≤ w.heap.size)
    (h : ∀ v' w', OwnU w' base v' (n + m) (xs ++ news) → Kin w w' v v' → wpList Try.prog ops Q rest (a.put o.dst v') w') : wpList Try.prog ops Q (o :: rest) a w := by
  obtain ⟨i, hi, hz0, hz1, hz2⟩ := info_parts infoU
  exact wpList_plain hgd fun _ hK => wp_append_mem w s x _ ho base 28 i _ 1 8 Try.underlying46 hi hz0 hz1 hz2 rfl (by omega) v n xs hs hown B y m news hy hx h1 (by unfold maxLen; omega) (by omega) hbase fun v' w' h2 h3 => hK _ _ (h v' w' h2 h3)
theorem less_any (x y : Int) (w : World) : Calls Try.prog 79 #[.int .u64 x, .int .u64 y] w fun e w' => e = .returned (.bool (decide (x < y))) ∧ w = w' := by
  go_enter Try.func79, Try.ntmps79
  by_cases h : x < y
  · have h' : decide (x < y) = true := by simpa using h
    go_wp2
    all_goals (go_ret; refine ⟨?_, rfl⟩; first | rfl | (simp [h]) | simp_all)
  · have h' : decide (x < y) = false := by simpa using h
    go_wp2
    all_goals (go_ret; refine ⟨?_, rfl⟩; first | rfl | (simp [h]) | simp_all)
theorem isnan_any (x : Int) (w : World) : Calls Try.prog 80 #[.int .u64 x] w fun e w' => e = .returned (.bool false) ∧ w = w' := by
  go_enter Try.func80, Try.ntmps80
  go_wp2
  all_goals (go_ret; refine ⟨?_, rfl⟩; first | rfl | simp)
/-- a list of numbers lies in a slice -/
def SlU (w : World) (A : Option Addr) (c : Nat) (R : List Nat) : Prop := Sl w w.heap.size 1 A R.length c (u64s R)
theorem SlU.at_ {w : World} {A : Option Addr} {c : Nat} {R : List Nat} (h : SlU w A c R) {k x : Nat} (hk : R[k]? = some x) : ∃ ad, A = some ad ∧ w.cell? (ad.add k) = some (.int .u64 (x : Int)) := by
  have := (List.getElem?_eq_some_iff.1 hk).1
  obtain ⟨ad, e, ha⟩ := Sl.at_ h (by omega)
  exact ⟨ad, e, ha.2 k _ (u64s_at hk)⟩
def foundB (x : Nat) (R : List Nat) : Bool := R.contains x
end Go.Proofs.Ytnpmjljpaaaljaa.Clg
