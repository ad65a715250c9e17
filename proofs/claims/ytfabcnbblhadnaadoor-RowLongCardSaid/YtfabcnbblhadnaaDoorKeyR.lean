/- key.firstBool, firstNumber, firstText: a value at the head of bytes. -/
import Derived.Test.YtfabcnbblhadnaaDoorBehind
namespace Go.Proofs.YtfabcnbblhadnaaDoor.Mem
open Go.RowKit Go.Proofs.YtfabcnbblhadnaaDoor.Nums
open Go.Proofs.YtfabcnbblhadnaaDoor.Cell (U8)
set_option linter.unusedVariables false
set_option linter.unusedSimpArgs false
set_option maxRecDepth 100000
def tlA (A : Option Addr) (c k : Nat) : Option Addr := if c = k then A else A.map (·.add k)
theorem Sl.tl {w : World} {B m k c : Nat} {A : Option Addr} {x : List UInt8} (h : Sl w B 1 A (m + k) c (u8s x)) : Sl w B 1 (tlA A c k) m (c - k) (u8s (x.drop k)) := by
  have hl := h.len
  rw [u8s_len] at hl
  have hle := h.le
  refine ⟨by rw [u8s_len, List.length_drop]; omega, by omega, by have := h.cap; omega, ?_, ?_⟩
  · unfold tlA
    split
    · intro _; omega
    · intro e
      have : A = none := by cases A with
        | none => rfl
        | some a => cases e
      have := h.nil this
      omega
  · intro hm
    obtain ⟨ad, rfl, ha⟩ := h.at_ (by omega)
    unfold tlA
    rw [if_neg (by omega)]
    refine ⟨ad.add k, rfl, ?_⟩
    have := ha.drop k
    rw [show (u8s x).drop k = u8s (x.drop k) by simp [u8s, List.map_drop]] at this
    exact this
theorem sliced_1 (a : Option Addr) (h m : Nat) : sliced a 1 h m 1 = .slice (tlA a m 1) (h - 1) (m - 1) := by simp [sliced, tlA]
theorem sliced_8 (a : Option Addr) (h m : Nat) : sliced a 8 h m 1 = .slice (tlA a m 8) (h - 8) (m - 8) := by simp [sliced, tlA]
attribute [local go_sem high] sliced_1 sliced_8
/-- What a call tells of the value at the head of bytes. -/
def FPost (B : Nat) (r : Option (V × List UInt8)) (w : World) (e : Ending) (w' : World) : Prop :=
  Below w.heap.size w w' ∧ match r with
  | some (v, rest) => ∃ A n c, e = .returned (.tuple #[v.val, .slice A n c, .bool true]) ∧ rest.length = n ∧ Sl w B 1 A n c (u8s rest)
  | none => e = .returned (.tuple #[.agg #[.int .u8 0, .int .i64 0, .string ⟨#[]⟩, .bool false], .slice none 0 0, .bool false])
def fBool : List UInt8 → Option (V × List UInt8)
  | [] => none
  | b :: r => if b.toNat ≤ 1 then some (⟨3, 0, ⟨#[]⟩, b == 1⟩, r) else none
theorem len_of {w : World} {B n c : Nat} {A : Option Addr} {x : List UInt8} (h : Sl w B 1 A n c (u8s x)) : x.length = n := by have := h.len; rw [u8s_len] at this; omega
theorem firstBool_any (B : Nat) (x : List UInt8) (A : Option Addr) (n c : Nat) (w : World) (hB : B ≤ w.heap.size) (hx : Sl w B 1 A n c (u8s x)) :
    Calls Tryd.prog 55 #[.slice A n c] w (FPost B (fBool x) w) := by
  have hl := len_of hx
  have hcap := hx.cap
  unfold maxLen at hcap
  have hle := hx.le
  cases x with
  | nil =>
    obtain rfl : n = 0 := by rw [← hl]; rfl
    clear hx hl
    go_enter Tryd.func55, Tryd.ntmps55
    go_wp2_with fail
    exact bodyPost_ret (v := .tuple #[.agg #[.int .u8 0, .int .i64 0, .string ⟨#[]⟩, .bool false], .slice none 0 0, .bool false]) (by simp [results, Tryd.results55, go_sem]) rfl ⟨Cell.bel_alloc _ _, rfl⟩
  | cons b r =>
    obtain ⟨m, rfl⟩ : ∃ m, n = m + 1 := ⟨n - 1, by have : (b :: r).length = r.length + 1 := rfl; omega⟩
    have hrl : r.length = m := by have : (b :: r).length = r.length + 1 := rfl; omega
    obtain ⟨ad, hA, hAt⟩ := hx.at_ (by omega)
    subst hA
    have e : ad.add 0 = ad := by simp [Addr.add]
    have x0 : ∀ o, (w.alloc o).cell? ad = some (.int .u8 (b.toNat : Int)) := fun o => by
      have h := u8s_at hAt (j := 0) (b := b) rfl
      rw [e] at h
      exact ((Cell.bel_alloc w o).cell (World.block_lt_of_cell? w _ h)).trans h
    have x0 := x0 (.cells #[.int .u8 0, .int .i64 0, .string ⟨#[]⟩, .bool false] 43)
    have HT := Lib.hid hx.tl
    have HRL := Lib.hid hrl
    have hq : ((b.toNat : Int) == 1) = (b == 1) := by
      rw [Bool.eq_iff_iff]
      simp only [beq_iff_eq]
      constructor
      · intro h; exact UInt8.toNat_inj.1 (by show b.toNat = 1; omega)
      · rintro rfl; rfl
    clear hx hAt hl e hrl
    by_cases hb : b.toNat ≤ 1
    · have hb' : ¬ (1 : Int) < b.toNat := by omega
      have HF : Hid (fBool (b :: r) = some (⟨3, 0, ⟨#[]⟩, b == 1⟩, r)) := Lib.hid (if_pos hb)
      by_cases hc1 : c = 1
      · subst hc1
        obtain rfl : m = 0 := by omega
        have et : tlA (some ad) 1 1 = some ad := rfl
        rw [et] at HT
        clear et
        go_enter Tryd.func55, Tryd.ntmps55
        go_wp2_with fail
        go_region
        go_wp2_with fail
        rw [HF.out]
        exact bodyPost_ret (v := .tuple #[.agg #[.int .u8 3, .int .i64 0, .string ⟨#[]⟩, .bool (b == 1)], .slice (some ad) 0 0, .bool true]) (by simp [results, Tryd.results55, go_sem]) rfl ⟨(Cell.bel_alloc _ _).drew, _, _, _, rfl, HRL.out, HT.out⟩
      · have et : tlA (some ad) c 1 = some ⟨ad.block, ad.off + 1, none⟩ := by unfold tlA; rw [if_neg hc1]; rfl
        rw [et] at HT
        clear et
        go_enter Tryd.func55, Tryd.ntmps55
        go_wp2_with fail
        go_region
        go_wp2_with fail
        rw [HF.out]
        exact bodyPost_ret (v := .tuple #[.agg #[.int .u8 3, .int .i64 0, .string ⟨#[]⟩, .bool (b == 1)], .slice (some ⟨ad.block, ad.off + 1, none⟩) m (c - 1), .bool true]) (by simp [results, Tryd.results55, go_sem]) rfl ⟨(Cell.bel_alloc _ _).drew, _, _, _, rfl, HRL.out, HT.out⟩
    · have hb' : (1 : Int) < b.toNat := by omega
      have HF : Hid (fBool (b :: r) = none) := Lib.hid (if_neg hb)
      go_enter Tryd.func55, Tryd.ntmps55
      go_wp2_with fail
      rw [HF.out]
      exact bodyPost_ret (v := .tuple #[.agg #[.int .u8 0, .int .i64 0, .string ⟨#[]⟩, .bool false], .slice none 0 0, .bool false]) (by simp [results, Tryd.results55, go_sem]) rfl ⟨Cell.bel_alloc _ _, rfl⟩
end Go.Proofs.YtfabcnbblhadnaaDoor.Mem
