/- package slices at numbers of 64 bits: Index, Contains, IndexFunc, DeleteFunc with snap.Take's own function. -/
import Derived.Test.YtnpmjljpaaaljaaOpenC
namespace Go.Proofs.Ytnpmjljpaaaljaa.Clg
open Go.ChangeMaps Go.MapKept Go.RowKit Go.Proofs.Ytnpmjljpaaaljaa.Nums Go.Proofs.Ytnpmjljpaaaljaa.Mem
set_option linter.unusedVariables false
set_option linter.unusedSimpArgs false
set_option maxRecDepth 100000
def ixOf (x : Nat) : List Nat → Nat → Int
  | [], _ => -1
  | y :: R, k => if y = x then (k : Int) else ixOf x R (k + 1)
theorem ixOf_step {x y k : Nat} {R : List Nat} (h : R[k]? = some y) : ixOf x (R.drop k) k = if y = x then (k : Int) else ixOf x (R.drop (k + 1)) (k + 1) := by
  obtain ⟨hk, e⟩ := List.getElem?_eq_some_iff.1 h
  rw [List.drop_eq_getElem_cons hk, e]
  rfl
theorem ixOf_ge (x : Nat) : ∀ (R : List Nat) (k : Nat), (foundB x R = true ∧ 0 ≤ ixOf x R k) ∨ (foundB x R = false ∧ ixOf x R k = -1)
  | [], k => .inr ⟨rfl, rfl⟩
  | y :: R, k => by
    show (foundB x (y :: R) = true ∧ 0 ≤ (if y = x then (k : Int) else ixOf x R (k + 1))) ∨ (foundB x (y :: R) = false ∧ (if y = x then (k : Int) else ixOf x R (k + 1)) = -1)
    by_cases h : y = x
    · rw [if_pos h]
      exact .inl ⟨by subst h; unfold foundB; simp, by omega⟩
    · rw [if_neg h]
      have e : foundB x (y :: R) = foundB x R := by
        unfold foundB
        rw [List.contains_cons]
        have : (x == y) = false := by rw [beq_eq_false_iff_ne]; exact Ne.symm h
        rw [this, Bool.false_or]
      rw [e]
      exact ixOf_ge x R (k + 1)
theorem index_any {w : World} {A : Option Addr} {c : Nat} {R : List Nat} (hs : SlU w A c R) (x : Nat) :
    Calls Try.prog 77 #[.slice A R.length c, .int .u64 (x : Int)] w fun e w' => e = .returned (.int .i64 (ixOf x R 0)) ∧ w = w' := by
  have HS := Lib.hid hs
  have hle := hs.le
  have hcap := hs.cap
  unfold maxLen at hcap
  obtain ⟨n, hn⟩ : ∃ n, R.length = n := ⟨_, rfl⟩
  have HN := Lib.hid hn
  rw [hn] at hle
  rw [hn]
  clear hs hn
  go_enter Try.func77, Try.ntmps77
  go_wp2_with fail
  go_loop [8] (fun i => ∃ k : Nat, k ≤ n ∧ i = .int .i64 k ∧ ixOf x R 0 = ixOf x (R.drop k) k) (fun i => n - (intOf i).toNat)
  case atStart => exact ⟨0, by omega, rfl, rfl⟩
  case round =>
    obtain ⟨k, hk, rfl, hh⟩ := hrel
    have HH := Lib.hid hh
    clear hh
    by_cases hlt : k < n
    · have hlt' : (k : Int) < n := by omega
      obtain ⟨y, hy⟩ : ∃ y, R[k]? = some y := ⟨_, List.getElem?_eq_getElem (by have := HN.out; omega)⟩
      obtain ⟨ad, rfl, y0⟩ := HS.out.at_ hy
      have HX := Lib.hid (ixOf_step (x := x) hy)
      clear hy
      by_cases hxy : y = x
      · subst hxy
        have HR : Hid (ixOf y R 0 = k) := Lib.hid (by rw [HH.out, HX.out, if_pos rfl])
        go_wp2_with fail
        go_ret
        exact ⟨by rw [HR.out]; rfl, rfl⟩
      · have HR : Hid (ixOf x R 0 = ixOf x (R.drop (k + 1)) (k + 1)) := Lib.hid (by rw [HH.out, HX.out, if_neg hxy])
        have hxy' : ((x : Int) == (y : Int)) = false := by rw [beq_eq_false_iff_ne]; omega
        go_wp2_with fail
        go_round
        case rel => exact ⟨k + 1, by omega, by go_num, HR.out⟩
        case measure => simp [intOf]; omega
    · obtain rfl : k = n := by omega
      have HR : Hid (ixOf x R 0 = -1) := Lib.hid (by rw [HH.out, List.drop_of_length_le (by have := HN.out; omega)]; rfl)
      go_wp2_with fail
      go_ret
      exact ⟨by rw [HR.out]; rfl, rfl⟩
theorem contains_any {w : World} {A : Option Addr} {c : Nat} {R : List Nat} (hs : SlU w A c R) (x : Nat) :
    Calls Try.prog 53 #[.slice A R.length c, .int .u64 (x : Int)] w fun e w' => e = .returned (.bool (foundB x R)) ∧ w = w' := by
  have CI := Lib.hid (index_any hs x)
  rcases ixOf_ge x R 0 with ⟨h1, h2⟩ | ⟨h1, h2⟩
  · have HF := Lib.hid h1
    obtain ⟨z, hz⟩ : ∃ z, ixOf x R 0 = z := ⟨_, rfl⟩
    rw [hz] at CI h2
    clear hs h1 hz
    go_enter Try.func53, Try.ntmps53
    go_wp2_with fail
    refine CI.out.mono ?_
    rintro e w1 ⟨rfl, rfl⟩
    go_wp2_with fail
    go_ret
    exact ⟨by rw [HF.out]; rfl, rfl⟩
  · have HF := Lib.hid h1
    rw [h2] at CI
    clear hs h1 h2
    go_enter Try.func53, Try.ntmps53
    go_wp2_with fail
    refine CI.out.mono ?_
    rintro e w1 ⟨rfl, rfl⟩
    go_wp2_with fail
    go_ret
    exact ⟨by rw [HF.out]; rfl, rfl⟩
theorem take1_any {w : World} {a : Addr} {own : Nat} (ha : w.cell? a = some (.int .u64 (own : Int))) (x : Nat) : Calls Try.prog 58 #[.int .u64 (x : Int), .pointer (some a)] w fun e w' => e = .returned (.bool (decide (x = own))) ∧ w = w' := by
  have hd : ((x : Int) == (own : Int)) = decide (x = own) := by
    by_cases h : x = own
    · subst h; simp
    · rw [decide_eq_false h, beq_eq_false_iff_ne]; omega
  go_enter Try.func58, Try.ntmps58
  go_wp2_with fail
  go_ret
  exact ⟨rfl, rfl⟩
def clo (a : Addr) : Value := .func (.func 58) #[] #[.pointer (some a)]
set_option maxHeartbeats 1000000 in
theorem indexFunc_any {w : World} {A : Option Addr} {c : Nat} {R : List Nat} (hs : SlU w A c R) {a : Addr} {own : Nat} (ha : w.cell? a = some (.int .u64 (own : Int))) :
    Calls Try.prog 81 #[.slice A R.length c, clo a] w fun e w' => e = .returned (.int .i64 (ixOf own R 0)) ∧ w = w' := by
  have HS := Lib.hid hs
  have hle := hs.le
  have hcap := hs.cap
  unfold maxLen at hcap
  obtain ⟨n, hn⟩ : ∃ n, R.length = n := ⟨_, rfl⟩
  have HN := Lib.hid hn
  have CT := Lib.hid (fun x => take1_any ha x)
  rw [hn] at hle
  rw [hn]
  unfold clo
  clear hs hn ha
  go_enter Try.func81, Try.ntmps81
  go_wp2_with fail
  go_loop [8] (fun i => ∃ k : Nat, k ≤ n ∧ i = .int .i64 k ∧ ixOf own R 0 = ixOf own (R.drop k) k) (fun i => n - (intOf i).toNat)
  case atStart => exact ⟨0, by omega, rfl, rfl⟩
  case round =>
    obtain ⟨k, hk, rfl, hh⟩ := hrel
    have HH := Lib.hid hh
    clear hh
    by_cases hlt : k < n
    · have hlt' : (k : Int) < n := by omega
      obtain ⟨y, hy⟩ : ∃ y, R[k]? = some y := ⟨_, List.getElem?_eq_getElem (by have := HN.out; omega)⟩
      obtain ⟨ad, rfl, y0⟩ := HS.out.at_ hy
      have HX := Lib.hid (ixOf_step (x := own) hy)
      have CT1 := CT.out y
      clear hy
      by_cases hxy : y = own
      · rw [decide_eq_true hxy] at CT1
        have CT1 := Lib.hid CT1
        have HR : Hid (ixOf own R 0 = k) := Lib.hid (by rw [HH.out, HX.out, if_pos hxy])
        clear hxy
        go_wp2_with fail
        refine CT1.out.mono ?_
        rintro e w1 ⟨rfl, rfl⟩
        go_wp2_with fail
        go_ret
        exact ⟨by rw [HR.out]; rfl, rfl⟩
      · rw [decide_eq_false hxy] at CT1
        have CT1 := Lib.hid CT1
        have HR : Hid (ixOf own R 0 = ixOf own (R.drop (k + 1)) (k + 1)) := Lib.hid (by rw [HH.out, HX.out, if_neg hxy])
        clear hxy
        go_wp2_with fail
        refine CT1.out.mono ?_
        rintro e w1 ⟨rfl, rfl⟩
        go_wp2_with fail
        go_round
        case rel => exact ⟨k + 1, by omega, by go_num, HR.out⟩
        case measure => simp [intOf]; omega
    · obtain rfl : k = n := by omega
      have HR : Hid (ixOf own R 0 = -1) := Lib.hid (by rw [HH.out, List.drop_of_length_le (by have := HN.out; omega)]; rfl)
      go_wp2_with fail
      go_ret
      exact ⟨by rw [HR.out]; rfl, rfl⟩
end Go.Proofs.Ytnpmjljpaaaljaa.Clg
