/- The document's check of a text, and of a value: each ends with a yes or a no; what a yes says of a value. -/
import Derived.Test.YtdfgpaoehikdpabDoorCellR
namespace Go.Proofs.YtdfgpaoehikdpabDoor.Cell
open Go.RowKit Go.Proofs.YtdfgpaoehikdpabDoor.Nums
set_option linter.unusedVariables false
set_option maxRecDepth 100000

def SomeB (w : World) (e : Ending) (w' : World) : Prop := ∃ r : Bool, e = .returned (.bool r) ∧ w = w'
theorem some_b (w : World) (r : Bool) : SomeB w (.returned (.bool r)) w := ⟨r, rfl, rfl⟩

set_option maxHeartbeats 8000000 in
theorem valid_any (s : ByteArray) (hs : s.size ≤ maxLen) (w : World) :
    Calls Tryd.prog 29 #[.string s] w (SomeB w) := by
  unfold maxLen at hs
  go_enter Tryd.func29, Tryd.ntmps29
  go_wp2_with fail
  go_loop [3] (fun v => ∃ i : Nat, i ≤ s.size ∧ v = .int .i64 i) (fun v => s.size - (intOf v).toNat)
  case atStart => exact ⟨0, Nat.zero_le _, rfl⟩
  case round =>
    obtain ⟨i, hi, rfl⟩ := hrel
    by_cases hlt : i < s.size
    · have b0 : (0 : Int) ≤ (s[i].toNat : Int) := by omega
      have b1 : (s[i].toNat : Int) ≤ 255 := by have := s[i].toNat_lt; omega
      by_cases c0 : (s[i].toNat : Int) = 0
      · have c0' : ((s[i].toNat : Int) == 0) = true := by simpa using c0
        clear c0
        go_wp2_with fail
        go_ret
        exact some_b _ _
      have c0' : ((s[i].toNat : Int) == 0) = false := by simpa using c0
      clear c0
      by_cases c1 : (s[i].toNat : Int) < 128
      · go_wp2_with fail
        go_round
        case rel => exact ⟨i + 1, by omega, by go_num⟩
        case measure => simp [intOf]; omega
      by_cases l1 : 192 ≤ (s[i].toNat : Int) ∧ (s[i].toNat : Int) < 224
      · obtain ⟨la, lb⟩ := l1
        by_cases hn : s.size - i ≤ 1
        · have hn' : (s.size : Int) - (i : Int) ≤ 1 := by omega
          go_wp2_with fail
          go_ret
          exact some_b _ _
        · have hn' : ¬ (s.size : Int) - (i : Int) ≤ 1 := by omega
          go_wp2_with fail
          go_loop [7, 8, 9] (fun r k c => ∃ (x : Int) (j : Nat), r = .int .i32 x ∧ k = .int .i64 j ∧ 1 ≤ j ∧ j ≤ 1 + 1) (fun _ k _ => 1 + 1 - (intOf k).toNat)
          case atStart => exact ⟨_, 1, rfl, rfl, by omega, by omega⟩
          case round =>
            obtain ⟨x, j, rfl, rfl, j1, j2⟩ := hrel
            by_cases hj : j ≤ 1
            · have hj' : (j : Int) ≤ 1 := by omega
              have hb : i + j < s.size := by omega
              have hx0 : (0 : Int) ≤ (s[i + j].toNat : Int) := by omega
              have hx1 : (s[i + j].toNat : Int) ≤ 255 := by have := s[i + j].toNat_lt; omega
              by_cases d1 : (s[i + j].toNat : Int) < 128
              · go_wp2_with fail
                go_ret
                exact some_b _ _
              · by_cases d2 : 192 ≤ (s[i + j].toNat : Int)
                · go_wp2_with fail
                  go_ret
                  exact some_b _ _
                · go_wp2_with fail
                  go_round
                  case rel => exact ⟨_, j + 1, rfl, by go_num, by omega, by omega⟩
                  case measure => simp [intOf]; omega
            · have hj' : ¬ (j : Int) ≤ 1 := by omega
              go_wp2_with fail
              all_goals first
                | (go_ret; exact some_b _ _)
                | (go_round; (case rel => exact ⟨i + 1 + 1, by omega, by go_num⟩); (case measure => simp [intOf]; omega))
      by_cases l2 : 224 ≤ (s[i].toNat : Int) ∧ (s[i].toNat : Int) < 240
      · obtain ⟨la, lb⟩ := l2
        by_cases hn : s.size - i ≤ 2
        · have hn' : (s.size : Int) - (i : Int) ≤ 2 := by omega
          go_wp2_with fail
          go_ret
          exact some_b _ _
        · have hn' : ¬ (s.size : Int) - (i : Int) ≤ 2 := by omega
          go_wp2_with fail
          go_loop [7, 8, 9] (fun r k c => ∃ (x : Int) (j : Nat), r = .int .i32 x ∧ k = .int .i64 j ∧ 1 ≤ j ∧ j ≤ 2 + 1) (fun _ k _ => 2 + 1 - (intOf k).toNat)
          case atStart => exact ⟨_, 1, rfl, rfl, by omega, by omega⟩
          case round =>
            obtain ⟨x, j, rfl, rfl, j1, j2⟩ := hrel
            by_cases hj : j ≤ 2
            · have hj' : (j : Int) ≤ 2 := by omega
              have hb : i + j < s.size := by omega
              have hx0 : (0 : Int) ≤ (s[i + j].toNat : Int) := by omega
              have hx1 : (s[i + j].toNat : Int) ≤ 255 := by have := s[i + j].toNat_lt; omega
              by_cases d1 : (s[i + j].toNat : Int) < 128
              · go_wp2_with fail
                go_ret
                exact some_b _ _
              · by_cases d2 : 192 ≤ (s[i + j].toNat : Int)
                · go_wp2_with fail
                  go_ret
                  exact some_b _ _
                · go_wp2_with fail
                  go_round
                  case rel => exact ⟨_, j + 1, rfl, by go_num, by omega, by omega⟩
                  case measure => simp [intOf]; omega
            · have hj' : ¬ (j : Int) ≤ 2 := by omega
              go_wp2_with fail
              all_goals first
                | (go_ret; exact some_b _ _)
                | (go_round; (case rel => exact ⟨i + 2 + 1, by omega, by go_num⟩); (case measure => simp [intOf]; omega))
      by_cases l3 : 240 ≤ (s[i].toNat : Int) ∧ (s[i].toNat : Int) < 248
      · obtain ⟨la, lb⟩ := l3
        by_cases hn : s.size - i ≤ 3
        · have hn' : (s.size : Int) - (i : Int) ≤ 3 := by omega
          go_wp2_with fail
          go_ret
          exact some_b _ _
        · have hn' : ¬ (s.size : Int) - (i : Int) ≤ 3 := by omega
          go_wp2_with fail
          go_loop [7, 8, 9] (fun r k c => ∃ (x : Int) (j : Nat), r = .int .i32 x ∧ k = .int .i64 j ∧ 1 ≤ j ∧ j ≤ 3 + 1) (fun _ k _ => 3 + 1 - (intOf k).toNat)
          case atStart => exact ⟨_, 1, rfl, rfl, by omega, by omega⟩
          case round =>
            obtain ⟨x, j, rfl, rfl, j1, j2⟩ := hrel
            by_cases hj : j ≤ 3
            · have hj' : (j : Int) ≤ 3 := by omega
              have hb : i + j < s.size := by omega
              have hx0 : (0 : Int) ≤ (s[i + j].toNat : Int) := by omega
              have hx1 : (s[i + j].toNat : Int) ≤ 255 := by have := s[i + j].toNat_lt; omega
              by_cases d1 : (s[i + j].toNat : Int) < 128
              · go_wp2_with fail
                go_ret
                exact some_b _ _
              · by_cases d2 : 192 ≤ (s[i + j].toNat : Int)
                · go_wp2_with fail
                  go_ret
                  exact some_b _ _
                · go_wp2_with fail
                  go_round
                  case rel => exact ⟨_, j + 1, rfl, by go_num, by omega, by omega⟩
                  case measure => simp [intOf]; omega
            · have hj' : ¬ (j : Int) ≤ 3 := by omega
              go_wp2_with fail
              all_goals first
                | (go_ret; exact some_b _ _)
                | (go_round; (case rel => exact ⟨i + 3 + 1, by omega, by go_num⟩); (case measure => simp [intOf]; omega))
      have e1 : (s[i].toNat : Int) < 192 ∨ 248 ≤ (s[i].toNat : Int) := by omega
      clear l1 l2 l3
      rcases e1 with e1 | e1
      · go_wp2_with fail
        go_ret
        exact some_b _ _
      · go_wp2_with fail
        go_ret
        exact some_b _ _
    · go_wp2_with fail
      go_ret
      exact some_b _ _
end Go.Proofs.YtdfgpaoehikdpabDoor.Cell
