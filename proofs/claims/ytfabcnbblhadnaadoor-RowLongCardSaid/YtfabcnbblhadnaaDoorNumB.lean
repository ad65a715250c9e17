/- A number's eight bytes, the highest first: key.addNumber. -/
import Derived.Test.YtfabcnbblhadnaaDoorMem
namespace Go.Proofs.YtfabcnbblhadnaaDoor.Mem
open Go.RowKit Go.Proofs.YtfabcnbblhadnaaDoor.Nums
set_option linter.unusedVariables false
set_option maxRecDepth 100000
def beU (U : Nat) : List UInt8 := (List.range 8).map fun k => UInt8.ofNat (U / 2 ^ (8 * (7 - k)))
theorem beU_len (U : Nat) : (beU U).length = 8 := by simp [beU]
theorem beU_take (U k : Nat) (hk : k < 8) : (beU U).take (k + 1) = (beU U).take k ++ [UInt8.ofNat (U / 2 ^ (8 * (7 - k)))] := by
  rw [List.take_succ_eq_append_getElem (by rw [beU_len]; exact hk)]
  simp [beU]
theorem ofNat_int (x : Nat) : (((UInt8.ofNat x).toNat : Nat) : Int) = (x : Int) % 256 := by
  rw [UInt8.toNat_ofNat']; omega
theorem beU_cell (U k : Nat) : #[Value.int IntKind.u8 ((U : Int) / 2 ^ (8 * (7 - k)) % 256)].toList = u8s [UInt8.ofNat (U / 2 ^ (8 * (7 - k)))] := by
  simp only [u8s, List.map_cons, List.map_nil, ofNat_int]
  congr 2
/-- What a call gives that adds bytes to a slice of its own. -/
def Grew (B : Nat) (v : Value) (n : Nat) (xs : List Value) (w : World) (e : Ending) (w' : World) : Prop := ∃ v', e = .returned v' ∧ OwnB w' B v' n xs ∧ Kin w w' v v'
theorem own_eq {w : World} {B : Nat} {v : Value} {n n' : Nat} {xs xs' : List Value} (h : OwnB w B v n xs) (hn : n = n') (hx : xs = xs') : OwnB w B v n' xs' := by subst hn hx; exact h
theorem xor_hi (Y : Nat) (h : Y < 2 ^ 63) : Y ^^^ 2 ^ 63 = 2 ^ 63 + Y := by
  apply Nat.eq_of_testBit_eq
  intro j
  rw [Nat.testBit_xor]
  rcases Nat.lt_trichotomy j 63 with hj | hj | hj
  · rw [Nat.testBit_two_pow_add_gt hj, Nat.testBit_two_pow_of_ne (by omega), Bool.xor_false]
  · subst hj
    rw [Nat.testBit_two_pow_add_eq, Nat.testBit_two_pow_self, Bool.xor_true]
  · have hp : 2 ^ 64 ≤ 2 ^ j := Nat.pow_le_pow_right (by omega) hj
    rw [Nat.testBit_lt_two_pow (x := Y) (by omega), Nat.testBit_lt_two_pow (x := 2 ^ 63) (by omega), Nat.testBit_lt_two_pow (x := 2 ^ 63 + Y) (by omega)]
    rfl
theorem xor_lo (Y : Nat) (h : Y < 2 ^ 63) : (2 ^ 63 + Y) ^^^ 2 ^ 63 = Y := by
  rw [← xor_hi Y h, Nat.xor_assoc, Nat.xor_self, Nat.xor_zero]
def turned (i : Int) : Nat := (i + 9223372036854775808).toNat
theorem turned_bits (i : Int) (h : Nums.In64 i) : bits .xor .u64 (IntKind.u64.wrap i) 9223372036854775808 = ((turned i : Nat) : Int) := by
  unfold Nums.In64 at h
  by_cases h0 : 0 ≤ i
  · have e : IntKind.u64.wrap i = ((i.toNat : Nat) : Int) := by rw [IntKind.wrap_u64]; omega
    have x := xor_hi i.toNat (by omega)
    rw [e, show (9223372036854775808 : Int) = ((2 ^ 63 : Nat) : Int) from rfl, u64_xor_nat _ _ (by omega) (by omega), x]
    unfold turned
    omega
  · obtain ⟨Y, hY⟩ : ∃ Y, turned i = Y := ⟨_, rfl⟩
    have hY2 := hY
    unfold turned at hY2
    have e : IntKind.u64.wrap i = ((2 ^ 63 + Y : Nat) : Int) := by rw [IntKind.wrap_u64]; omega
    have x := xor_lo Y (by omega)
    rw [e, show (9223372036854775808 : Int) = ((2 ^ 63 : Nat) : Int) from rfl, u64_xor_nat _ _ (by omega) (by omega), x, hY]
theorem addNumber_any (B : Nat) (v : Value) (n : Nat) (xs : List Value) (i : Int) (w : World) (hown : OwnB w B v n xs) (hB : B ≤ w.heap.size) (hn : n ≤ 1000000) (hi : Nums.In64 i) :
    Calls Tryd.prog 54 #[v, .int .i64 i] w (Grew B v (n + 8) (xs ++ u8s (beU (turned i))) w) := by
  obtain ⟨U, hU⟩ : ∃ U, turned i = U := ⟨_, rfl⟩
  have hUb := turned_bits i hi
  rw [hU] at hUb ⊢
  clear hi hU
  go_enter Tryd.func54, Tryd.ntmps54
  go_wp2_with fail
  have HO := Lib.hid hown
  clear hUb hown
  go_loopw [0, 10] (fun p c wr => ∃ k : Nat, k ≤ 8 ∧ c = .int .i64 k ∧ OwnB wr B p (n + k) (xs ++ u8s ((beU U).take k)) ∧ Kin w wr v p) (fun _ c _ => 8 - (intOf c).toNat)
  case atStart => exact ⟨0, by omega, rfl, by simpa [u8s] using HO.out, Kin.refl _ _⟩
  case round =>
    obtain ⟨k, hk, rfl, hownr, hbr⟩ := hrel
    have HO2 := Lib.hid hownr
    have HB2 := Lib.hid hbr
    clear hownr hbr
    by_cases hlt : k < 8
    · have hlt' : (k : Int) < 8 := by omega
      have hsz := HB2.out.1.size
      go_wp2_with (at_builtin; refine wpl_app_b rfl (.tmp 13) (.tmp 20) rfl B u0 (n + k) _ rfl (HO2.out.alloc _) _ _ 1 _ rfl (lies_lit _ _ _ 1 1 rfl) (one1 _ _) (by omega) (by rw [size_alloc]; omega) ?_; intro v1 w1 hown1 hgrow1)
      go_roundw
      case rel =>
        refine ⟨k + 1, by omega, by go_num, own_eq hown1 (by omega) ?_, HB2.out.trans ((Kin.alloc _ _ _).trans hgrow1)⟩
        rw [beU_cell, beU_take _ _ hlt, u8s_app, List.append_assoc]
      case measure => simp [intOf]; omega
    · obtain rfl : k = 8 := by omega
      have ht : (beU U).take 8 = beU U := List.take_of_length_le (by rw [beU_len]; omega)
      rw [ht] at HO2
      clear ht
      go_wp2_with fail
      go_ret
      exact ⟨_, rfl, HO2.out, HB2.out⟩
end Go.Proofs.YtfabcnbblhadnaaDoor.Mem
