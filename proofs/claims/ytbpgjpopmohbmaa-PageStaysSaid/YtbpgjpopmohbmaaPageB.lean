/- The page's small words: Slots, begin, slot, span, at, next, slotsEnd. -/
import Derived.Test.YtbpgjpopmohbmaaPageA
namespace Go.Proofs.Ytbpgjpopmohbmaa.Mem
open Go.RowKit Go.Proofs.Ytbpgjpopmohbmaa.Nums
set_option linter.unusedVariables false
set_option linter.unusedSimpArgs false
set_option maxRecDepth 100000
/-- two bytes at a place, the lowest first -/
def get2 (X : List UInt8) (a : Nat) : Nat := leN ((X.drop a).take 2)
theorem get2_lt (X : List UInt8) (a : Nat) : get2 X a < 65536 := by
  have h1 := leN_lt ((X.drop a).take 2)
  have h2 : ((X.drop a).take 2).length ≤ 2 := by rw [List.length_take]; omega
  have h3 : 2 ^ (8 * ((X.drop a).take 2).length) ≤ 2 ^ 16 := Nat.pow_le_pow_right (by omega) (by omega)
  unfold get2
  omega
/-- the page's block -/
def Pg (w : World) (P : Nat) (X : List UInt8) : Prop := BB w P 113 X ∧ X.length = 512
theorem Pg.sl {w : World} {P : Nat} {X : List UInt8} (h : Pg w P X) (a m : Nat) (hm : a + m ≤ 512) : Sl w w.heap.size 1 (some ⟨P, a, none⟩) m (512 - a) (u8s ((X.drop a).take m)) :=
  BB.sl h.1 a m (512 - a) (by rw [h.2]; exact hm) (by omega) (by unfold maxLen; omega)
theorem slots_pg (P : Nat) (X : List UInt8) (w : World) (hp : Pg w P X) :
    Calls Try.prog 25 #[.pointer (some ⟨P, 0, none⟩)] w fun e w' => e = .returned (.int .i64 (get2 X 0 : Nat)) ∧ w = w' := by
  have C1 := Lib.hid (read_any _ _ _ _ _ w (by omega) (hp.sl 0 2 (by omega)))
  have hg := get2_lt X 0
  have e : leN ((X.drop 0).take 2) = get2 X 0 := rfl
  rw [e] at C1
  clear e hp
  generalize get2 X 0 = G at *
  go_enter Try.func25, Try.ntmps25
  go_wp2_with fail
  refine C1.out.mono ?_
  rintro e w1 ⟨rfl, rfl⟩
  go_wp2_with fail
  go_ret
  exact ⟨rfl, rfl⟩
theorem slots_nil (w : World) : Calls Try.prog 25 #[.pointer none] w fun e w' => e = .returned (.int .i64 0) ∧ w = w' := by
  go_enter Try.func25, Try.ntmps25
  go_wp2_with fail
  go_ret
  exact ⟨rfl, rfl⟩
theorem begin_pg (P : Nat) (X : List UInt8) (w : World) (hp : Pg w P X) :
    Calls Try.prog 79 #[.pointer (some ⟨P, 0, none⟩)] w fun e w' => e = .returned (.int .i64 (get2 X 2 : Nat)) ∧ w = w' := by
  have C1 := Lib.hid (read_any _ _ _ _ _ w (by omega) (hp.sl 2 2 (by omega)))
  have hg := get2_lt X 2
  have e : leN ((X.drop 2).take 2) = get2 X 2 := rfl
  rw [e] at C1
  clear e hp
  generalize get2 X 2 = G at *
  go_enter Try.func79, Try.ntmps79
  go_wp2_with fail
  refine C1.out.mono ?_
  rintro e w1 ⟨rfl, rfl⟩
  go_wp2_with fail
  go_ret
  exact ⟨rfl, rfl⟩
/-- a slot's bytes, in a page of at most so many slots -/
theorem slot_pg (P s : Nat) (w : World) (hs : 4 + 4 * s + 4 ≤ 512) :
    Calls Try.prog 83 #[.pointer (some ⟨P, 0, none⟩), .int .i64 s] w fun e w' => e = .returned (.slice (some ⟨P, 4 + 4 * s, none⟩) 4 (512 - (4 + 4 * s) : Nat)) ∧ w = w' := by
  have h1 : (s : Int) ≤ 126 := by omega
  have h2 : (0 : Int) ≤ 4 + (s : Int) * 4 := by omega
  have h3 : 4 + (s : Int) * 4 ≤ 4 + (s : Int) * 4 + 4 := by omega
  have h4 : 4 + (s : Int) * 4 + 4 ≤ 512 := by omega
  have h5 : (4 + (s : Int) * 4).toNat = 4 + s * 4 := by omega
  have h6 : (4 + (s : Int) * 4 + 4).toNat = 4 + s * 4 + 4 := by omega
  have e : 4 + 4 * s = 4 + s * 4 := by omega
  rw [e]
  clear e hs
  go_enter Try.func83, Try.ntmps83
  go_wp2_with fail
  go_ret
  exact ⟨rfl, rfl⟩
theorem Pg.drewN {w : World} {P : Nat} {X : List UInt8} (h : Pg w P X) (n : Nat) : Pg (w.drewN n) P X := h
theorem rd2 {w : World} {P : Nat} {X : List UInt8} (hp : Pg w P X) (a c : Nat) (ha : a + 2 ≤ 512) (hc : 2 ≤ c) (hcm : c ≤ 512) :
    Calls Try.prog 72 #[.slice (some ⟨P, a, none⟩) 2 c] w fun e w' => e = .returned (.int .u64 (get2 X a : Nat)) ∧ w = w' :=
  read_any _ w.heap.size _ _ _ w (by omega) (BB.sl hp.1 a 2 c (by rw [hp.2]; exact ha) hc (by unfold maxLen; omega))
theorem quiet_of {P : Program} {f : FuncId} {args : Array Value} {w : World} {n : Nat} {v : Value} (h : Calls P f args (w.drewN n) fun e w' => e = .returned v ∧ w.drewN n = w') : Calls P f args (w.drewN n) fun e w'' => e = .returned v ∧ ∃ m, w'' = w.drewN m :=
  h.mono fun _ _ ⟨h1, h2⟩ => ⟨h1, n, h2.symm⟩
theorem span_pg (P s : Nat) (X : List UInt8) (w : World) (hp : Pg w P X) (hs : 4 + 4 * s + 4 ≤ 512) :
    Calls Try.prog 98 #[.pointer (some ⟨P, 0, none⟩), .int .i64 s] w fun e w' => e = .returned (.tuple #[.int .i64 (get2 X (4 + 4 * s) : Nat), .int .i64 (get2 X (6 + 4 * s) : Nat)]) ∧ ∃ m, w' = w.drewN m := by
  have C1 := Lib.hid (slot_pg P s w hs)
  have HP := Lib.hid hp
  have hf := get2_lt X (4 + 4 * s)
  have hz := get2_lt X (6 + 4 * s)
  obtain ⟨a, ha⟩ : ∃ a, 4 + 4 * s = a := ⟨_, rfl⟩
  rw [ha] at C1 hs hf ⊢
  rw [show 6 + 4 * s = a + 2 by omega] at hz ⊢
  obtain ⟨c, hc⟩ : ∃ c, 512 - a = c := ⟨_, rfl⟩
  rw [hc] at C1
  have hc4 : 4 ≤ c := by omega
  have hc5 : c ≤ 512 := by omega
  have hi : (2 : Int) ≤ c := by omega
  have hi4 : (4 : Int) ≤ c := by omega
  have hne : ¬ c = 2 := by omega
  clear ha hc hp
  go_enter Try.func98, Try.ntmps98
  go_wp2_with fail
  refine C1.out.mono ?_
  rintro e w1 ⟨rfl, rfl⟩
  go_wp2_with fail
  go_quiet ((go_at_call 72; exact quiet_of (rd2 (HP.out.drewN _) _ _ (by omega) (by omega) (by omega))))
  go_wp2_with fail
  go_ret2
  exact ⟨rfl, _, rfl⟩
theorem at_neg (P : Nat) (i : Int) (w : World) (hi : i < 0) :
    Calls Try.prog 71 #[.pointer (some ⟨P, 0, none⟩), .int .i64 i] w fun e w' => e = .returned (.slice none 0 0) ∧ w = w' := by
  go_enter Try.func71, Try.ntmps71
  go_wp2_with fail
  go_ret
  exact ⟨rfl, rfl⟩
theorem at_nilneg (i : Int) (w : World) (hi : i < 0) :
    Calls Try.prog 71 #[.pointer none, .int .i64 i] w fun e w' => e = .returned (.slice none 0 0) ∧ w = w' := by
  go_enter Try.func71, Try.ntmps71
  go_wp2_with fail
  go_ret
  exact ⟨rfl, rfl⟩
theorem at_nil (i : Int) (w : World) (hi : ¬ i < 0) :
    Calls Try.prog 71 #[.pointer none, .int .i64 i] w fun e w' => e = .returned (.slice none 0 0) ∧ w = w' := by
  have C1 := Lib.hid (slots_nil w)
  have hi0 : (0 : Int) ≤ i := by omega
  go_enter Try.func71, Try.ntmps71
  go_wp2_with fail
  refine C1.out.mono ?_
  rintro e w1 ⟨rfl, rfl⟩
  go_wp2_with fail
  go_ret
  exact ⟨rfl, rfl⟩
theorem at_over (P : Nat) (X : List UInt8) (i : Int) (w : World) (hp : Pg w P X) (hi : ¬ i < 0) (h2 : (get2 X 0 : Int) ≤ i) :
    Calls Try.prog 71 #[.pointer (some ⟨P, 0, none⟩), .int .i64 i] w fun e w' => e = .returned (.slice none 0 0) ∧ w = w' := by
  have C1 := Lib.hid (slots_pg P X w hp)
  clear hp
  generalize get2 X 0 = G at *
  go_enter Try.func71, Try.ntmps71
  go_wp2_with fail
  refine C1.out.mono ?_
  rintro e w1 ⟨rfl, rfl⟩
  go_wp2_with fail
  go_ret
  exact ⟨rfl, rfl⟩
theorem at_free (P s : Nat) (X : List UInt8) (w : World) (hp : Pg w P X) (h1 : s < get2 X 0) (hs : 4 + 4 * s + 4 ≤ 512) (hz : get2 X (6 + 4 * s) = 0) :
    Calls Try.prog 71 #[.pointer (some ⟨P, 0, none⟩), .int .i64 s] w fun e w' => e = .returned (.slice none 0 0) ∧ ∃ m, w' = w.drewN m := by
  have C1 := Lib.hid (slots_pg P X w hp)
  have C2 := Lib.hid (span_pg P s X w hp hs)
  rw [hz] at C2
  have hi : ¬ (s : Int) < 0 := by omega
  have hi2 : ¬ (get2 X 0 : Int) ≤ s := by omega
  clear hp hz h1 hs
  generalize get2 X 0 = G at *
  generalize get2 X (4 + 4 * s) = F at *
  go_enter Try.func71, Try.ntmps71
  go_wp2_with fail
  refine C1.out.mono ?_
  rintro e w1 ⟨rfl, rfl⟩
  go_wp2_with fail
  refine C2.out.mono ?_
  rintro e w2 ⟨rfl, m, rfl⟩
  go_wp2_with fail
  go_ret
  exact ⟨rfl, _, rfl⟩
theorem at_some (P s f z : Nat) (X : List UInt8) (w : World) (hp : Pg w P X) (h1 : s < get2 X 0) (hs : 4 + 4 * s + 4 ≤ 512) (hf : get2 X (4 + 4 * s) = f) (hz : get2 X (6 + 4 * s) = z) (h0 : z ≠ 0) (h5 : f + z ≤ 512) :
    Calls Try.prog 71 #[.pointer (some ⟨P, 0, none⟩), .int .i64 s] w fun e w' => e = .returned (.slice (some ⟨P, f, none⟩) z (512 - f : Nat)) ∧ ∃ m, w' = w.drewN m := by
  have C1 := Lib.hid (slots_pg P X w hp)
  have C2 := Lib.hid (span_pg P s X w hp hs)
  rw [hz, hf] at C2
  have hi : ¬ (s : Int) < 0 := by omega
  have hi2 : ¬ (get2 X 0 : Int) ≤ s := by omega
  have hz0 : ((z : Int) == 0) = false := by rw [beq_eq_false_iff_ne]; omega
  have k1 : (0 : Int) ≤ f := Int.natCast_nonneg _
  have k2 : (f : Int) ≤ (f : Int) + z := by omega
  have k3 : (f : Int) + z ≤ 512 := by omega
  have k4 : ((f : Int) + z).toNat = f + z := by omega
  have k5 : ¬ 512 - f = 0 := by omega
  clear hp hz hf h1 hs
  generalize get2 X 0 = G at *
  go_enter Try.func71, Try.ntmps71
  go_wp2_with fail
  refine C1.out.mono ?_
  rintro e w1 ⟨rfl, rfl⟩
  go_wp2_with fail
  refine C2.out.mono ?_
  rintro e w2 ⟨rfl, m, rfl⟩
  go_wp2_with fail
  go_ret
  exact ⟨rfl, _, rfl⟩
end Go.Proofs.Ytbpgjpopmohbmaa.Mem
