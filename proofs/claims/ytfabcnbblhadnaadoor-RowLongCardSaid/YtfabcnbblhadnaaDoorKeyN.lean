/- key.firstNumber. -/
import Derived.Test.YtfabcnbblhadnaaDoorKeyR
namespace Go.Proofs.YtfabcnbblhadnaaDoor.Mem
open Go.RowKit Go.Proofs.YtfabcnbblhadnaaDoor.Nums
open Go.Proofs.YtfabcnbblhadnaaDoor.Cell (U8)
set_option linter.unusedVariables false
set_option linter.unusedSimpArgs false
set_option maxRecDepth 100000
def beN (l : List UInt8) : Nat := l.foldl (fun a b => a * 256 + b.toNat) 0
theorem beN_snoc (l : List UInt8) (b : UInt8) : beN (l ++ [b]) = beN l * 256 + b.toNat := by simp [beN]
theorem beN_lt (l : List UInt8) : beN l < 256 ^ l.length := by
  have h : ∀ r : List UInt8, beN r.reverse < 256 ^ r.length := by
    intro r
    induction r with
    | nil => simp [beN]
    | cons b r ih =>
      rw [List.reverse_cons, beN_snoc, List.length_cons, Nat.pow_succ]
      have := b.toNat_lt
      omega
  have := h l.reverse
  rwa [List.reverse_reverse, List.length_reverse] at this
def fNum (x : List UInt8) : Option (V × List UInt8) := if 8 ≤ x.length then some (⟨1, (beN (x.take 8) : Int) - 9223372036854775808, ⟨#[]⟩, false⟩, x.drop 8) else none
theorem or_byte (Z : Nat) (b : UInt8) (hZ : Z < 256 ^ 7) : bits .or .u64 (IntKind.u64.wrap ((Z : Int) * 256)) (IntKind.u64.wrap (b.toNat : Int)) = ((Z * 256 + b.toNat : Nat) : Int) := by
  have hb := b.toNat_lt
  have e1 : IntKind.u64.wrap ((Z : Int) * 256) = ((Z * 256 : Nat) : Int) := by rw [IntKind.wrap_u64]; omega
  have e2 : IntKind.u64.wrap (b.toNat : Int) = ((b.toNat : Nat) : Int) := by rw [IntKind.wrap_u64]; omega
  have e3 : Z * 256 ||| b.toNat = Z * 256 + b.toNat := by
    have h := Nat.shiftLeft_add_eq_or_of_lt (i := 8) (b := b.toNat) hb Z
    rw [Nat.shiftLeft_eq] at h
    exact h.symm
  rw [e1, e2, u64_or_nat _ _ (by omega) (by omega), e3]
theorem unturn (U : Nat) (hU : U < 18446744073709551616) : wrap64 (bits .xor .u64 (U : Int) 9223372036854775808) = (U : Int) - 9223372036854775808 := by
  unfold wrap64
  have e63 : (9223372036854775808 : Int) = ((2 ^ 63 : Nat) : Int) := rfl
  by_cases h : U < 2 ^ 63
  · have x := xor_hi U h
    rw [e63, u64_xor_nat _ _ (by omega) (by omega), x]
    omega
  · obtain ⟨Y, rfl⟩ : ∃ Y, U = 2 ^ 63 + Y := ⟨U - 2 ^ 63, by omega⟩
    have x := xor_lo Y (by omega)
    rw [e63, u64_xor_nat _ _ (by omega) (by omega), x]
    omega
theorem firstNumber_any (B : Nat) (x : List UInt8) (A : Option Addr) (n c : Nat) (w : World) (hB : B ≤ w.heap.size) (hx : Sl w B 1 A n c (u8s x)) :
    Calls Tryd.prog 56 #[.slice A n c] w (FPost B (fNum x) w) := by
  have hl := len_of hx
  have hcap := hx.cap
  unfold maxLen at hcap
  have hle := hx.le
  by_cases h8 : 8 ≤ n
  rotate_left
  · have h8' : (n : Int) < 8 := by omega
    have HF : Hid (fNum x = none) := Lib.hid (if_neg (by omega))
    clear hx hl
    go_enter Tryd.func56, Tryd.ntmps56
    go_wp2_with fail
    rw [HF.out]
    exact bodyPost_ret (v := .tuple #[.agg #[.int .u8 0, .int .i64 0, .string ⟨#[]⟩, .bool false], .slice none 0 0, .bool false]) (by simp [results, Tryd.results56, go_sem]) rfl ⟨Cell.bel_alloc _ _, rfl⟩
  · have h8' : ¬ (n : Int) < 8 := by omega
    have h8c : (8 : Int) ≤ c := by omega
    obtain ⟨m, rfl⟩ : ∃ m, n = m + 8 := ⟨n - 8, by omega⟩
    obtain ⟨U, hU⟩ : ∃ U, beN (x.take 8) = U := ⟨_, rfl⟩
    have HF : Hid (fNum x = some (⟨1, (U : Int) - 9223372036854775808, ⟨#[]⟩, false⟩, x.drop 8)) := Lib.hid (by rw [← hU]; exact if_pos (by omega))
    obtain ⟨ad, hA, hAt⟩ := hx.at_ (by omega)
    subst hA
    have HT := Lib.hid hx.tl
    have HRL : Hid ((x.drop 8).length = m) := Lib.hid (by rw [List.length_drop]; omega)
    have HAT := Lib.hid ((hAt.more hB).below (Cell.bel_alloc w (.cells #[.int .u8 0, .int .i64 0, .string ⟨#[]⟩, .bool false] 43)))
    have HL := Lib.hid hl
    have HU := Lib.hid hU
    clear hx hAt hl hU
    go_enter Tryd.func56, Tryd.ntmps56
    go_wp2_with fail
    go_loop [5, 15] (fun u i => ∃ k : Nat, k ≤ 8 ∧ i = .int .i64 k ∧ u = .int .u64 (beN (x.take k) : Nat)) (fun _ i => 8 - (intOf i).toNat)
    case atStart => exact ⟨0, by omega, rfl, rfl⟩
    case round =>
      obtain ⟨k, hk, rfl, rfl⟩ := hrel
      by_cases hlt : k < 8
      · have hlt' : (k : Int) < 8 := by omega
        obtain ⟨b, hb⟩ : ∃ b, x[k]? = some b := ⟨_, List.getElem?_eq_getElem (by rw [HL.out]; omega)⟩
        have x0 := u8s_at HAT.out hb
        have HS : Hid (beN (x.take (k + 1)) = beN (x.take k) * 256 + b.toNat) := Lib.hid (by rw [take_succ_of hb, beN_snoc])
        have hlt2 : beN (x.take k) < 256 ^ 7 := by
          have h1 := beN_lt (x.take k)
          have h2 : (x.take k).length ≤ 7 := by rw [List.length_take]; omega
          exact Nat.lt_of_lt_of_le h1 (Nat.pow_le_pow_right (by omega) h2)
        generalize beN (x.take k) = Z at *
        have HZ := Lib.hid hlt2
        clear hb hlt2
        go_wp2_with fail
        go_round
        case rel =>
          refine ⟨k + 1, by omega, by go_num, ?_⟩
          rw [or_byte Z b HZ.out, HS.out]
        case measure => simp [intOf]; omega
      · obtain rfl : k = 8 := by omega
        rw [HU.out]
        have hU64 : U < 18446744073709551616 := by
          have h1 := beN_lt (x.take 8)
          have h2 : (x.take 8).length ≤ 8 := by rw [List.length_take]; omega
          have h3 : 256 ^ (x.take 8).length ≤ 256 ^ 8 := Nat.pow_le_pow_right (by omega) h2
          rw [HU.out] at h1
          have h4 : (256 : Nat) ^ 8 = 18446744073709551616 := by decide
          omega
        have hun := unturn U hU64
        obtain ⟨I, hI⟩ : ∃ I, (U : Int) - 9223372036854775808 = I := ⟨_, rfl⟩
        rw [hI] at hun HF
        have HUN := Lib.hid hun
        clear hU64 hun hI HU
        by_cases hc8 : c = 8
        · subst hc8
          obtain rfl : m = 0 := by omega
          have et : tlA (some ad) 8 8 = some ad := rfl
          rw [et] at HT
          clear et
          go_wp2_with fail
          go_region
          go_wp2_with fail
          rw [HUN.out, HF.out]
          exact bodyPost_ret (v := .tuple #[.agg #[.int .u8 1, .int .i64 I, .string ⟨#[]⟩, .bool false], .slice (some ad) 0 0, .bool true]) (by simp [results, Tryd.results56, go_sem]) rfl ⟨(Cell.bel_alloc _ _).drew, _, _, _, rfl, HRL.out, HT.out⟩
        · have et : tlA (some ad) c 8 = some ⟨ad.block, ad.off + 8, none⟩ := by unfold tlA; rw [if_neg hc8]; rfl
          rw [et] at HT
          clear et
          go_wp2_with fail
          go_region
          go_wp2_with fail
          rw [HUN.out, HF.out]
          exact bodyPost_ret (v := .tuple #[.agg #[.int .u8 1, .int .i64 I, .string ⟨#[]⟩, .bool false], .slice (some ⟨ad.block, ad.off + 8, none⟩) m (c - 8), .bool true]) (by simp [results, Tryd.results56, go_sem]) rfl ⟨(Cell.bel_alloc _ _).drew, _, _, _, rfl, HRL.out, HT.out⟩
end Go.Proofs.YtfabcnbblhadnaaDoor.Mem
