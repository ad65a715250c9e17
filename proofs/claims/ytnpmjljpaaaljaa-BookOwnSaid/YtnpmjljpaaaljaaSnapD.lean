/- snap.Sees, Visible, Dead, Free. -/
import Derived.Test.YtnpmjljpaaaljaaSnapC
namespace Go.Proofs.Ytnpmjljpaaaljaa.Clg
open Go.ChangeMaps Go.MapKept Go.RowKit Go.Proofs.Ytnpmjljpaaaljaa.Nums Go.Proofs.Ytnpmjljpaaaljaa.Mem
set_option linter.unusedVariables false
set_option linter.unusedSimpArgs false
set_option maxRecDepth 100000
structure Sn where
  own : Nat
  xmin : Nat
  xmax : Nat
  run : List Nat
  A : Option Addr
  c : Nat
def Sn.val (s : Sn) : Value := snV s.own s.xmin s.xmax s.A s.run.length s.c
def seesB (f : Nat) (S : List Nat) (own xmax : Nat) (run : List Nat) (x : Nat) : Bool := if x = own then true else if xmax ≤ x then false else if foundB x run = true then false else (stOf f S x == 2)
def visB (f : Nat) (S : List Nat) (own xmax : Nat) (run : List Nat) (a b : Nat) : Bool := seesB f S own xmax run a && (b == 0 || !seesB f S own xmax run b)
def deadB (f : Nat) (S : List Nat) (a b h : Nat) : Bool := stOf f S a == 3 || (decide (b < h) && (stOf f S b == 2))
def freeE (f : Nat) (S : List Nat) (own xmax : Nat) (run : List Nat) (a b : Nat) : Int := if b ≠ 0 ∧ b ≠ own ∧ stOf f S b ≠ 3 then 11 else if visB f S own xmax run a b = true then 0 else 14
def tupV (a b : Nat) : Value := .agg #[.int .u64 0, .int .u64 (a : Int), .int .u64 (b : Int), .int .i64 0, .int .i64 0, .slice none 0 0]
def BoolP (w : World) (b : Bool) (e : Ending) (w' : World) : Prop := e = .returned (.bool b) ∧ Below w.heap.size w w'
section
variable {w w' : World} {F : Nat → Prop} {P f : Nat} {S : List Nat}
set_option maxHeartbeats 1000000 in
theorem sees_any (h : LF w F P f S) (hS : ∀ s ∈ S, 1 ≤ s ∧ s ≤ 3) {own xmin xmax : Nat} {run : List Nat} {A : Option Addr} {c : Nat} (hs : SlU w A c run) {x : Nat} (hx : x < 18446744073709551616) :
    Calls Try.prog 19 #[.pointer (some ⟨P, 0, none⟩), .agg #[.int .u64 (own : Int), .int .u64 (xmin : Int), .int .u64 (xmax : Int), .slice A run.length c], .int .u64 (x : Int)] w (BoolP w (seesB f S own xmax run x)) := by
  obtain ⟨n, hn⟩ : ∃ n, run.length = n := ⟨_, rfl⟩
  obtain ⟨W2, hW2⟩ : ∃ W2, W2 = w.alloc (.cells #[.int .u64 (own : Int), .int .u64 (xmin : Int), .int .u64 (xmax : Int), .slice A n c] 48) := ⟨_, rfl⟩
  have HB2 : Hid (Below w.heap.size w W2) := Lib.hid (by rw [hW2]; exact bel_alloc _ _)
  by_cases h1 : x = own
  · subst h1
    have HR : Hid (seesB f S x xmax run x = true) := Lib.hid (if_pos rfl)
    rw [hn]
    have HW := Lib.hid hW2
    clear h hS hs hx hn hW2
    go_enter Try.func19, Try.ntmps19
    go_wp2_with fail
    rw [← HW.out]
    go_ret
    exact ⟨by rw [HR.out]; rfl, HB2.out⟩
  have hxo : ((x : Int) == (own : Int)) = false := by rw [beq_eq_false_iff_ne]; omega
  by_cases h2 : xmax ≤ x
  · have HR : Hid (seesB f S own xmax run x = false) := Lib.hid (by unfold seesB; rw [if_neg h1, if_pos h2])
    have h2' : decide (x < xmax) = false := by rw [decide_eq_false_iff_not]; omega
    rw [hn]
    have HW := Lib.hid hW2
    clear h hS hs hx hn hW2 h1 h2
    go_enter Try.func19, Try.ntmps19
    go_wp2_with fail
    rw [← HW.out]
    go_ret
    exact ⟨by rw [HR.out]; rfl, HB2.out⟩
  have h2' : decide (x < xmax) = true := by rw [decide_eq_true_iff]; omega
  have hs2 : SlU W2 A c run := by rw [hW2]; exact Sl.on hs (bel_alloc _ _)
  have hl2 : LF W2 F P f S := by rw [hW2]; exact h.alloc _
  have CC := contains_any hs2 x
  have CS := Lib.hid (state_any hl2 hS hx)
  rw [hn] at CC
  have CC := Lib.hid CC
  rw [hn]
  have HW := Lib.hid hW2
  by_cases h3 : foundB x run = true
  · have HR : Hid (seesB f S own xmax run x = false) := Lib.hid (by unfold seesB; rw [if_neg h1, if_neg h2, if_pos h3])
    rw [h3] at CC
    clear h hS hs hx hn hW2 h1 h2 h3 hs2 hl2
    go_enter Try.func19, Try.ntmps19
    go_wp2_with fail
    rw [← HW.out]
    refine CC.out.mono ?_
    rintro e w3 ⟨rfl, rfl⟩
    go_wp2_with fail
    go_ret
    exact ⟨by rw [HR.out]; rfl, HB2.out⟩
  · have HR : Hid (seesB f S own xmax run x = (stOf f S x == 2)) := Lib.hid (by unfold seesB; rw [if_neg h1, if_neg h2, if_neg h3])
    have h3' : foundB x run = false := by simpa using h3
    rw [h3'] at CC
    obtain ⟨s, hst⟩ : ∃ s, stOf f S x = s := ⟨_, rfl⟩
    rw [hst] at CS HR
    have he : ((s : Int) == 2) = (s == 2) := by
      by_cases e : s = 2
      · subst e; rfl
      · rw [beq_eq_false_iff_ne.2 e, beq_eq_false_iff_ne]; omega
    have HE := Lib.hid he
    clear h hS hs hx hn hW2 h1 h2 h3 h3' hs2 hl2 hst he
    go_enter Try.func19, Try.ntmps19
    go_wp2_with fail
    rw [← HW.out]
    refine CC.out.mono ?_
    rintro e w3 ⟨rfl, rfl⟩
    go_wp2_with fail
    refine CS.out.mono ?_
    rintro e w3 ⟨rfl, hb3⟩
    have HB3 := Lib.hid (HB2.out.trans (hb3.mono HB2.out.size))
    clear hb3
    go_wp2_with fail
    go_ret
    exact ⟨by rw [HR.out, ← HE.out]; rfl, HB3.out⟩
end
end Go.Proofs.Ytnpmjljpaaaljaa.Clg
