/- lapidaryref05.Get. -/
import Derived.Test.YtbpgjpopmohbmaaRfA
namespace Go.Proofs.Ytbpgjpopmohbmaa.Mem
open Go.RowKit Go.Proofs.Ytbpgjpopmohbmaa.Nums
set_option linter.unusedVariables false
set_option linter.unusedSimpArgs false
set_option maxRecDepth 100000
set_option maxHeartbeats 1000000
theorem rget_ret {w : World} {b : Nat} {v0 v1 v2 v3 v4 v5 q : Value} {tmps : Array Value} (h : Blk w b 33 #[v0, v1, v2, v3, v4, v5]) (h4 : tmps.getD 4 undef = .pointer (some ⟨b, 0, none⟩)) (h5 : tmps.getD 5 undef = q) :
    (results Try.f27 tmps).run Try.prog w = .ok (.tuple #[.agg #[v0, v1, v2, v3, v4, v5], q]) w := by
  have x0 := h.cell 0
  have x1 := h.cell 1
  have x2 := h.cell 2
  have x3 := h.cell 3
  have x4 := h.cell 4
  have x5 := h.cell 5
  have g4 : tmps[4]?.getD undef = .pointer (some ⟨b, 0, none⟩) := by simpa using h4
  have g5 : tmps[5]?.getD undef = q := by simpa using h5
  simp [results, Try.results27, go_sem, g4, g5, x0, x1, x2, x3, x4, x5]
/-- what lies in a slot of the reference's -/
def atE (E : List Ent) (i : Int) : Option Ent := if i < 0 then none else E[i.toNat]?
section
variable {w : World} {F : Nat → Prop} {R st c : Nat} {E : List Ent} {A : Option Addr}
theorem rget_nil (i : Int) (w : World) : Calls Try.prog 27 #[.pointer none, .int .i64 i] w fun e w' => e = .returned (.tuple #[zeroT, .bool false]) ∧ Below w.heap.size w w' := by
  have HT0 : Hid (Blk (w.alloc (.cells #[.int .u64 0, .int .u64 0, .int .u64 0, .int .i64 0, .int .i64 0, .slice none 0 0] 33)) w.heap.size 33 #[.int .u64 0, .int .u64 0, .int .u64 0, .int .i64 0, .int .i64 0, .slice none 0 0]) := Lib.hid (Blk.new w _ _)
  go_enter Try.func27, Try.ntmps27
  go_wp2_with fail
  exact bodyPost_ret (rget_ret HT0.out rfl rfl) rfl ⟨rfl, bel_alloc _ _⟩
theorem rget_none (h : RfA w F R E st A c) (i : Int) (hn : atL (E.map Prod.fst) i = none) :
    Calls Try.prog 27 #[.pointer (some ⟨R, 0, none⟩), .int .i64 i] w fun e w' => e = .returned (.tuple #[zeroT, .bool false]) ∧ Below w.heap.size w w' := by
  have HT0 : Hid (Blk (w.alloc (.cells #[.int .u64 0, .int .u64 0, .int .u64 0, .int .i64 0, .int .i64 0, .slice none 0 0] 33)) w.heap.size 33 #[.int .u64 0, .int .u64 0, .int .u64 0, .int .i64 0, .int .i64 0, .slice none 0 0]) := Lib.hid (Blk.new w _ _)
  have hle := h.le
  unfold maxLen at hle
  have h2 := h.below (bel_alloc w (.cells #[.int .u64 0, .int .u64 0, .int .u64 0, .int .i64 0, .int .i64 0, .slice none 0 0] 33))
  have x0 := h2.blk.cell 0
  have x1 := h2.blk.cell 1
  by_cases hi : i < 0
  · clear h2 hn
    go_enter Try.func27, Try.ntmps27
    go_wp2_with fail
    exact bodyPost_ret (rget_ret HT0.out rfl rfl) rfl ⟨rfl, bel_alloc _ _⟩
  rcases atL_none hn with h0 | h0 | ⟨s, rfl, hs⟩
  · exact absurd h0 hi
  · rw [List.length_map] at h0
    clear h2 hn
    go_enter Try.func27, Try.ntmps27
    go_wp2_with fail
    exact bodyPost_ret (rget_ret HT0.out rfl rfl) rfl ⟨rfl, bel_alloc _ _⟩
  · have hsl : s < E.length := by have := (List.getElem?_eq_some_iff.1 hs).1; rwa [List.length_map] at this
    obtain ⟨⟨o, u⟩, he⟩ : ∃ e, E[s]? = some e := ⟨_, List.getElem?_eq_getElem hsl⟩
    rw [map_at he] at hs
    injection hs with hs
    subst hs
    obtain ⟨g, cur, rfl, _, _, _, _⟩ := h.arr hsl
    obtain ⟨y0, _⟩ := h2.free8 he rfl
    have h0' : ¬ (E.length : Int) ≤ s := by omega
    have h1' : (s : Int) < E.length := by omega
    clear h2 hn
    go_enter Try.func27, Try.ntmps27
    go_wp2_with fail
    exact bodyPost_ret (rget_ret HT0.out rfl rfl) rfl ⟨rfl, bel_alloc _ _⟩
theorem rget_some (h : RfA w F R E st A c) (s : Nat) (v : Ver) (f : Nat) (u : Value) (he : E[s]? = some (some (v, f), u)) :
    Calls Try.prog 27 #[.pointer (some ⟨R, 0, none⟩), .int .i64 s] w fun e w' => e = .returned (.tuple #[tupV v u, .bool true]) ∧ Below w.heap.size w w' := by
  have hle := h.le
  unfold maxLen at hle
  have h2 := h.below (bel_alloc w (.cells #[.int .u64 0, .int .u64 0, .int .u64 0, .int .i64 0, .int .i64 0, .slice none 0 0] 33))
  obtain ⟨Au, cu, rfl, hsl⟩ := Sl.of_own (h.data s v f u he).1
  have HT0 : Hid (Blk (w.alloc (.cells #[.int .u64 v.r, .int .u64 v.a, .int .u64 v.b, .int .i64 ((v.p : Int) - 1), .int .i64 ((v.s : Int) - 1), .slice Au v.d.length cu] 33)) w.heap.size 33 #[.int .u64 v.r, .int .u64 v.a, .int .u64 v.b, .int .i64 ((v.p : Int) - 1), .int .i64 ((v.s : Int) - 1), .slice Au v.d.length cu]) := Lib.hid (Blk.new w _ _)
  have x0 := h2.blk.cell 0
  have x1 := h2.blk.cell 1
  have hi : ¬ (s : Int) < 0 := by omega
  have hsl : s < E.length := (List.getElem?_eq_some_iff.1 he).1
  obtain ⟨g, cur, rfl, _, _, _, _⟩ := h.arr hsl
  obtain ⟨y0, y1, y2, y3, y4, y5, y6, y7⟩ := h2.full8 he rfl
  have h0' : ¬ (E.length : Int) ≤ s := by omega
  have h1' : (s : Int) < E.length := by omega
  clear h2 h
  go_enter Try.func27, Try.ntmps27
  go_wp2_with fail
  exact bodyPost_ret (rget_ret HT0.out rfl rfl) rfl ⟨rfl, bel_alloc _ _⟩
end
end Go.Proofs.Ytbpgjpopmohbmaa.Mem
