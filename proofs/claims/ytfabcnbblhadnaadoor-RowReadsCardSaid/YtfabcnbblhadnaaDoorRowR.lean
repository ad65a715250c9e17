/- row.firstBool, firstNumber: a value of a kind at the head of bytes. -/
import Derived.Test.YtfabcnbblhadnaaDoorKeyN
import Derived.Test.YtfabcnbblhadnaaDoorRowA
namespace Go.Proofs.YtfabcnbblhadnaaDoor.Mem
open Go.RowKit Go.Proofs.YtfabcnbblhadnaaDoor.Nums
open Go.Proofs.YtfabcnbblhadnaaDoor.Cell (U8)
set_option linter.unusedVariables false
set_option linter.unusedSimpArgs false
set_option maxRecDepth 100000
attribute [local go_sem high] sliced_1 sliced_8
/-- the number that bytes make, the lowest first -/
def leN : List UInt8 → Nat
  | [] => 0
  | b :: l => b.toNat + 256 * leN l
theorem leN_snoc (l : List UInt8) (b : UInt8) : leN (l ++ [b]) = leN l + b.toNat * 2 ^ (8 * l.length) := by
  induction l with
  | nil => simp [leN]
  | cons a l ih =>
    show a.toNat + 256 * leN (l ++ [b]) = a.toNat + 256 * leN l + b.toNat * 2 ^ (8 * (l.length + 1))
    have e : 256 * (b.toNat * 2 ^ (8 * l.length)) = b.toNat * 2 ^ (8 * (l.length + 1)) := by
      rw [show 8 * (l.length + 1) = 8 * l.length + 8 by omega, Nat.pow_add, Nat.mul_left_comm, Nat.mul_comm 256]
    rw [ih, Nat.mul_add, e, Nat.add_assoc]
theorem leN_lt (l : List UInt8) : leN l < 2 ^ (8 * l.length) := by
  induction l with
  | nil => simp [leN]
  | cons a l ih =>
    show a.toNat + 256 * leN l < 2 ^ (8 * (l.length + 1))
    rw [show 8 * (l.length + 1) = 8 * l.length + 8 by omega, Nat.pow_add]
    have := a.toNat_lt
    omega
theorem or_at (Z k : Nat) (b : UInt8) (hZ : Z < 2 ^ (8 * k)) (hk : k < 8) : bits .or .u64 (Z : Int) (IntKind.u64.wrap (IntKind.u64.wrap (b.toNat : Int) * 2 ^ (8 * k))) = ((Z + b.toNat * 2 ^ (8 * k) : Nat) : Int) := by
  have hb := b.toNat_lt
  have hp : 2 ^ (8 * k) ≤ 2 ^ 56 := Nat.pow_le_pow_right (by omega) (by omega)
  have hm : b.toNat * 2 ^ (8 * k) ≤ 255 * 2 ^ 56 := Nat.mul_le_mul (by omega) hp
  have e1 : IntKind.u64.wrap (b.toNat : Int) = ((b.toNat : Nat) : Int) := by rw [IntKind.wrap_u64]; omega
  have e2 : ((b.toNat : Nat) : Int) * 2 ^ (8 * k) = ((b.toNat * 2 ^ (8 * k) : Nat) : Int) := by push_cast; rfl
  have e3 := Nat.shiftLeft_add_eq_or_of_lt (i := 8 * k) (b := Z) hZ b.toNat
  rw [Nat.shiftLeft_eq] at e3
  rw [e1, e2]
  obtain ⟨M, hM⟩ : ∃ M, b.toNat * 2 ^ (8 * k) = M := ⟨_, rfl⟩
  rw [hM] at hm e3 ⊢
  have e4 : IntKind.u64.wrap (M : Int) = ((M : Nat) : Int) := by rw [IntKind.wrap_u64]; omega
  rw [e4, u64_or_nat _ _ (by omega) (by omega), Nat.or_comm, ← e3, Nat.add_comm]
def rNum (x : List UInt8) : Option (V × List UInt8) := if 8 ≤ x.length then some (⟨1, wrap64 (leN (x.take 8) : Int), ⟨#[]⟩, false⟩, x.drop 8) else none
theorem rfirstBool_any (B : Nat) (x : List UInt8) (A : Option Addr) (n c : Nat) (w : World) (hB : B ≤ w.heap.size) (hx : Sl w B 1 A n c (u8s x)) :
    Calls Tryd.prog 62 #[.slice A n c] w (FPost B (fBool x) w) := by
  have hl := len_of hx
  have hcap := hx.cap
  unfold maxLen at hcap
  have hle := hx.le
  cases x with
  | nil =>
    obtain rfl : n = 0 := by rw [← hl]; rfl
    clear hx hl
    go_enter Tryd.func62, Tryd.ntmps62
    go_wp2_with fail
    exact bodyPost_ret (v := .tuple #[.agg #[.int .u8 0, .int .i64 0, .string ⟨#[]⟩, .bool false], .slice none 0 0, .bool false]) (by simp [results, Tryd.results62, go_sem]) rfl ⟨Cell.bel_alloc _ _, rfl⟩
  | cons b r =>
    obtain ⟨m, rfl⟩ : ∃ m, n = m + 1 := ⟨n - 1, by have : (b :: r).length = r.length + 1 := rfl; omega⟩
    have hrl : r.length = m := by have : (b :: r).length = r.length + 1 := rfl; omega
    obtain ⟨ad, hA, hAt⟩ := hx.at_ (by omega)
    subst hA
    have e : ad.add 0 = ad := by simp [Addr.add]
    have x0 : ∀ o, (w.alloc o).cell? ad = some (.int .u8 (b.toNat : Int)) := fun o => by
      have h := u8s_at hAt (j := 0) (b := b) rfl
      rw [e] at h
      exact ((Cell.bel_alloc w o).cell (World.block_lt_of_cell? w _ h)).trans h
    have x0 := x0 (.cells #[.int .u8 0, .int .i64 0, .string ⟨#[]⟩, .bool false] 43)
    have HT := Lib.hid hx.tl
    have HRL := Lib.hid hrl
    have hq : ((b.toNat : Int) == 1) = (b == 1) := by
      rw [Bool.eq_iff_iff]
      simp only [beq_iff_eq]
      constructor
      · intro h; exact UInt8.toNat_inj.1 (by show b.toNat = 1; omega)
      · rintro rfl; rfl
    clear hx hAt hl e hrl
    by_cases hb : b.toNat ≤ 1
    · have hb' : ¬ (1 : Int) < b.toNat := by omega
      have HF : Hid (fBool (b :: r) = some (⟨3, 0, ⟨#[]⟩, b == 1⟩, r)) := Lib.hid (if_pos hb)
      by_cases hc1 : c = 1
      · subst hc1
        obtain rfl : m = 0 := by omega
        have et : tlA (some ad) 1 1 = some ad := rfl
        rw [et] at HT
        clear et
        go_enter Tryd.func62, Tryd.ntmps62
        go_wp2_with fail
        go_region
        go_wp2_with fail
        rw [HF.out]
        exact bodyPost_ret (v := .tuple #[.agg #[.int .u8 3, .int .i64 0, .string ⟨#[]⟩, .bool (b == 1)], .slice (some ad) 0 0, .bool true]) (by simp [results, Tryd.results62, go_sem]) rfl ⟨(Cell.bel_alloc _ _).drew, _, _, _, rfl, HRL.out, HT.out⟩
      · have et : tlA (some ad) c 1 = some ⟨ad.block, ad.off + 1, none⟩ := by unfold tlA; rw [if_neg hc1]; rfl
        rw [et] at HT
        clear et
        go_enter Tryd.func62, Tryd.ntmps62
        go_wp2_with fail
        go_region
        go_wp2_with fail
        rw [HF.out]
        exact bodyPost_ret (v := .tuple #[.agg #[.int .u8 3, .int .i64 0, .string ⟨#[]⟩, .bool (b == 1)], .slice (some ⟨ad.block, ad.off + 1, none⟩) m (c - 1), .bool true]) (by simp [results, Tryd.results62, go_sem]) rfl ⟨(Cell.bel_alloc _ _).drew, _, _, _, rfl, HRL.out, HT.out⟩
    · have hb' : (1 : Int) < b.toNat := by omega
      have HF : Hid (fBool (b :: r) = none) := Lib.hid (if_neg hb)
      go_enter Tryd.func62, Tryd.ntmps62
      go_wp2_with fail
      rw [HF.out]
      exact bodyPost_ret (v := .tuple #[.agg #[.int .u8 0, .int .i64 0, .string ⟨#[]⟩, .bool false], .slice none 0 0, .bool false]) (by simp [results, Tryd.results62, go_sem]) rfl ⟨Cell.bel_alloc _ _, rfl⟩
theorem rfirstNumber_any (B : Nat) (x : List UInt8) (A : Option Addr) (n c : Nat) (w : World) (hB : B ≤ w.heap.size) (hx : Sl w B 1 A n c (u8s x)) :
    Calls Tryd.prog 60 #[.slice A n c] w (FPost B (rNum x) w) := by
  have hl := len_of hx
  have hcap := hx.cap
  unfold maxLen at hcap
  have hle := hx.le
  by_cases h8 : 8 ≤ n
  rotate_left
  · have h8' : (n : Int) < 8 := by omega
    have HF : Hid (rNum x = none) := Lib.hid (if_neg (by omega))
    clear hx hl
    go_enter Tryd.func60, Tryd.ntmps60
    go_wp2_with fail
    rw [HF.out]
    exact bodyPost_ret (v := .tuple #[.agg #[.int .u8 0, .int .i64 0, .string ⟨#[]⟩, .bool false], .slice none 0 0, .bool false]) (by simp [results, Tryd.results60, go_sem]) rfl ⟨Cell.bel_alloc _ _, rfl⟩
  · have h8' : ¬ (n : Int) < 8 := by omega
    have h8c : (8 : Int) ≤ c := by omega
    obtain ⟨m, rfl⟩ : ∃ m, n = m + 8 := ⟨n - 8, by omega⟩
    obtain ⟨U, hU⟩ : ∃ U, leN (x.take 8) = U := ⟨_, rfl⟩
    have HF : Hid (rNum x = some (⟨1, wrap64 (U : Int), ⟨#[]⟩, false⟩, x.drop 8)) := Lib.hid (by rw [← hU]; exact if_pos (by omega))
    obtain ⟨ad, hA, hAt⟩ := hx.at_ (by omega)
    subst hA
    have HT := Lib.hid hx.tl
    have HRL : Hid ((x.drop 8).length = m) := Lib.hid (by rw [List.length_drop]; omega)
    have HAT := Lib.hid ((hAt.more hB).below (Cell.bel_alloc w (.cells #[.int .u8 0, .int .i64 0, .string ⟨#[]⟩, .bool false] 43)))
    have HL := Lib.hid hl
    have HU := Lib.hid hU
    clear hx hAt hl hU
    go_enter Tryd.func60, Tryd.ntmps60
    go_wp2_with fail
    go_loop [5, 15] (fun u i => ∃ k : Nat, k ≤ 8 ∧ i = .int .i64 k ∧ u = .int .u64 (leN (x.take k) : Nat)) (fun _ i => 8 - (intOf i).toNat)
    case atStart => exact ⟨0, by omega, rfl, rfl⟩
    case round =>
      obtain ⟨k, hk, rfl, rfl⟩ := hrel
      by_cases hlt : k < 8
      · have hlt' : (k : Int) < 8 := by omega
        obtain ⟨b, hb⟩ : ∃ b, x[k]? = some b := ⟨_, List.getElem?_eq_getElem (by rw [HL.out]; omega)⟩
        have x0 := u8s_at HAT.out hb
        have HS : Hid (leN (x.take (k + 1)) = leN (x.take k) + b.toNat * 2 ^ (8 * k)) := Lib.hid (by rw [take_succ_of hb, leN_snoc, List.length_take, Nat.min_eq_left (by rw [HL.out]; omega)])
        have hlt2 : leN (x.take k) < 2 ^ (8 * k) := by
          have h1 := leN_lt (x.take k)
          rwa [List.length_take, Nat.min_eq_left (by rw [HL.out]; omega)] at h1
        have h8k : (8 : Int) * k ≤ 56 := by omega
        have h8z : (0 : Int) ≤ 8 * k := by omega
        have h8n : ((8 : Int) * k).toNat = 8 * k := by omega
        have h8w : IntKind.i64.wrap ((8 : Int) * k) = 8 * k := by rw [IntKind.wrap_i64]; omega
        generalize leN (x.take k) = Z at *
        have HZ := Lib.hid hlt2
        clear hb hlt2
        go_wp2_with fail
        go_round
        case rel =>
          refine ⟨k + 1, by omega, by go_num, ?_⟩
          rw [or_at Z k b HZ.out hlt, HS.out]
        case measure => simp [intOf]; omega
      · obtain rfl : k = 8 := by omega
        rw [HU.out]
        have hU64 : U < 18446744073709551616 := by
          have h1 := leN_lt (x.take 8)
          rw [List.length_take, Nat.min_eq_left (by rw [HL.out]; omega), HU.out] at h1
          exact h1
        obtain ⟨I, hI⟩ : ∃ I, wrap64 (U : Int) = I := ⟨_, rfl⟩
        rw [hI] at HF
        have HUN := Lib.hid hI
        clear hU64 hI HU
        by_cases hc8 : c = 8
        · subst hc8
          obtain rfl : m = 0 := by omega
          have et : tlA (some ad) 8 8 = some ad := rfl
          rw [et] at HT
          clear et
          go_wp2_with fail
          go_region
          go_wp2_with fail
          rw [HUN.out, HF.out]
          exact bodyPost_ret (v := .tuple #[.agg #[.int .u8 1, .int .i64 I, .string ⟨#[]⟩, .bool false], .slice (some ad) 0 0, .bool true]) (by simp [results, Tryd.results60, go_sem]) rfl ⟨(Cell.bel_alloc _ _).drew, _, _, _, rfl, HRL.out, HT.out⟩
        · have et : tlA (some ad) c 8 = some ⟨ad.block, ad.off + 8, none⟩ := by unfold tlA; rw [if_neg hc8]; rfl
          rw [et] at HT
          clear et
          go_wp2_with fail
          go_region
          go_wp2_with fail
          rw [HUN.out, HF.out]
          exact bodyPost_ret (v := .tuple #[.agg #[.int .u8 1, .int .i64 I, .string ⟨#[]⟩, .bool false], .slice (some ⟨ad.block, ad.off + 8, none⟩) m (c - 8), .bool true]) (by simp [results, Tryd.results60, go_sem]) rfl ⟨(Cell.bel_alloc _ _).drew, _, _, _, rfl, HRL.out, HT.out⟩
end Go.Proofs.YtfabcnbblhadnaaDoor.Mem
