/- A number's digits: calc.Dec and the document's. (Own texts of the layer calc, for a dump that lacks the rest of it.) -/
import Derived.Test.YtdfgpaoehikdpabDoorDigits
import Derived.Test.YtdfgpaoehikdpabDoorCellX
import Derived.WalkSpells
import Derived.WalkLawsBesides
import Derived.Lib.AppendIntMem
import Derived.Lib.LaidU8
import Derived.WalkSmall
namespace Go.Proofs.YtdfgpaoehikdpabDoor.Calc
open Go.RowKit Go.Proofs.YtdfgpaoehikdpabDoor.Nums
set_option linter.unusedVariables false

theorem size_any (n : Int) (h : In64 n) (w : World) :
    Calls Tryd.prog 50 #[.int .i64 n] w fun e w' => e = .returned (.int .u64 (mag n)) ∧ w = w' := by
  unfold In64 at h
  by_cases g : n < 0
  · have HM : Hid (mag n = -(n + 1) + 1) := Lib.hid (by rw [mag_neg g]; omega)
    go_enter Tryd.func50, Tryd.ntmps50
    go_wp2_with fail
    go_ret
    exact ⟨by rw [HM.out]; rfl, rfl⟩
  · have HM : Hid (mag n = n) := Lib.hid (mag_pos (by omega))
    go_enter Tryd.func50, Tryd.ntmps50
    go_wp2_with fail
    go_ret
    exact ⟨by rw [HM.out]; rfl, rfl⟩

def strLen : Value → Nat | .string s => s.size | _ => 0

def decTo (l : List UInt8) (m : Nat) : List UInt8 := if l ≠ [] ∧ m = 0 then l else Go.Lib.decDigits m ++ l
theorem decTo_step (l : List UInt8) (m : Nat) (h : l = [] ∨ 0 < m) : decTo (UInt8.ofNat (48 + m % 10) :: l) (m / 10) = decTo l m := by
  have e : decTo l m = Go.Lib.decDigits m ++ l := if_neg (by intro ⟨a, b⟩; rcases h with h | h; exact a h; omega)
  rw [e, Go.Lib.decDigits]
  unfold decTo
  by_cases g : m < 10
  · rw [if_pos ⟨by simp, by omega⟩, dif_pos g, show m % 10 = m by omega]; rfl
  · rw [if_neg (by omega), dif_neg g]; simp
theorem dig_piece (k : Nat) (hk : k < 10) (l : List UInt8) : (({ data := #[48, 49, 50, 51, 52, 53, 54, 55, 56, 57] } : ByteArray).extract k (k + 1) ++ { data := l.toArray } : ByteArray) = { data := (UInt8.ofNat (48 + k) :: l).toArray } := by
  have e : ∀ k : Fin 10, ((([48, 49, 50, 51, 52, 53, 54, 55, 56, 57] : List UInt8).drop k.val).take (k.val + 1 - k.val)) = [UInt8.ofNat (48 + k.val)] := by decide
  apply ByteArray.ext
  apply Array.ext'
  rw [ByteArray.data_append, Array.toList_append, Go.Lib.extract_data, e ⟨k, hk⟩]
  rfl
theorem minus (l : List UInt8) : (({ data := #[45] } : ByteArray) ++ { data := l.toArray } : ByteArray) = { data := (45 :: l).toArray } := by
  apply ByteArray.ext
  apply Array.ext'
  rw [ByteArray.data_append, Array.toList_append]
  rfl
theorem dig_len (k : Nat) (hk : k < 10) (l : List UInt8) : strLen (.string (({ data := #[48, 49, 50, 51, 52, 53, 54, 55, 56, 57] } : ByteArray).extract k (k + 1) ++ { data := l.toArray } : ByteArray)) = l.length + 1 := by
  rw [dig_piece k hk l]; rfl
theorem decTo_len (l : List UInt8) (m : Nat) (h : (decTo l m).length ≤ 19) : l.length ≤ 19 := by
  unfold decTo at h
  split at h
  · exact h
  · simp at h; omega
theorem measure_down (m : Nat) (x y : Value) (hx : strLen x ≠ 0) (h : 0 < m ∨ strLen y = 0) : (2 * (intOf (.int .u64 ((m : Int) / 10))).toNat + if strLen x = 0 then 1 else 0) < 2 * (intOf (.int .u64 (m : Int))).toNat + if strLen y = 0 then 1 else 0 := by
  rw [if_neg hx]
  simp only [intOf]
  rcases h with h | h
  · omega
  · rw [if_pos h]; omega
theorem ref_dec (n : Int) (hn : In64 n) (w : World) :
    Calls Tryd.prog 38 #[.int .i64 n] w fun e w' => e = .returned (.string ⟨(Go.Lib.itoa n).toArray⟩) ∧ w = w' := by
  have hm := mag_bd hn
  have HLEN := Lib.hid (dec_len19 n hn)
  go_enter Tryd.func38, Tryd.ntmps38
  go_wp2_with (go_at_call 50; refine (size_any _ (by assumption) _).mono ?_; rintro e w' ⟨rfl, rfl⟩)
  go_loop [3, 4] (fun x u => ∃ (l : List UInt8) (m : Nat), x = .string ⟨l.toArray⟩ ∧ u = .int .u64 m ∧ (m : Int) ≤ 9223372036854775808 ∧ decTo l m = Go.Lib.decDigits n.natAbs) (fun x u => 2 * (intOf u).toNat + (if strLen x = 0 then 1 else 0))
  case atStart => exact ⟨[], n.natAbs, rfl, by rw [mag_abs], by rw [← mag_abs]; exact hm.2, by simp [decTo]⟩
  case round =>
    obtain ⟨l, m, rfl, rfl, h1, h3⟩ := hrel
    have hlen : l.length ≤ 19 := decTo_len l m (by rw [h3]; exact HLEN.out)
    have H3 := Lib.hid h3
    clear h3
    by_cases hl : l = []
    · subst hl
      by_cases hz : 0 < m
      · have z1 : (0 : Int) < (m : Int) := by omega
        go_wp2_with fail
        exact ⟨⟨UInt8.ofNat (48 + m % 10) :: [], m / 10, congrArg Value.string (dig_piece (m % 10) (by omega) []), by go_num, by omega, (decTo_step [] m (.inl rfl)).trans H3.out⟩, measure_down m _ _ (by rw [show strLen _ = _ from dig_len (m % 10) (by omega) []]; simp) (.inl hz)⟩
      · obtain rfl : m = 0 := by omega
        go_wp2_with fail
        exact ⟨⟨UInt8.ofNat (48 + 0 % 10) :: [], 0 / 10, congrArg Value.string (dig_piece 0 (by omega) []), rfl, by omega, (decTo_step [] 0 (.inl rfl)).trans H3.out⟩, measure_down 0 _ _ (by rw [show strLen _ = _ from dig_len 0 (by omega) []]; simp) (.inr rfl)⟩
    · have hl2 : l.isEmpty = false := by simpa using hl
      have HL := Lib.hid hl
      clear hl
      by_cases hz : 0 < m
      · have z1 : (0 : Int) < (m : Int) := by omega
        go_wp2_with fail
        exact ⟨⟨UInt8.ofNat (48 + m % 10) :: l, m / 10, congrArg Value.string (dig_piece (m % 10) (by omega) l), by go_num, by omega, (decTo_step l m (.inr hz)).trans H3.out⟩, measure_down m _ _ (by rw [show strLen _ = _ from dig_len (m % 10) (by omega) l]; simp) (.inl hz)⟩
      · obtain rfl : m = 0 := by omega
        have HE : Hid (l = Go.Lib.decDigits n.natAbs) := Lib.hid (by rw [← H3.out, decTo, if_pos ⟨HL.out, rfl⟩])
        by_cases hn0 : n < 0
        · have HI : Hid (Go.Lib.itoa n = 45 :: l) := Lib.hid (by rw [HE.out, Go.Lib.itoa, if_pos hn0])
          go_wp2_with fail
          go_ret
          exact ⟨by rw [HI.out]; exact congrArg (fun b => Ending.returned (.string b)) (minus l), rfl⟩
        · have HI : Hid (Go.Lib.itoa n = l) := Lib.hid (by rw [HE.out, Go.Lib.itoa, if_neg hn0]; congr 1; omega)
          go_wp2_with fail
          go_ret
          exact ⟨by rw [HI.out]; rfl, rfl⟩

theorem dec_any (n : Int) (hn : In64 n) (w : World) (hT : Go.Lib.TabIs Tryd.prog w "internal/strconv.uint64pow10" .u64 Go.Lib.pow10Tab) :
    Calls Tryd.prog 36 #[.int .i64 n] w fun e w' => e = .returned (.string ⟨(Go.Lib.itoa n).toArray⟩) ∧ Below w.heap.size w w' := by
  have c := Tryd.strconv_FormatInt_10 n hn.1 hn.2 w hT
  have H := Lib.hid c
  clear c hT
  go_enter Tryd.func36, Tryd.ntmps36
  go_wp2_with fail
  refine H.out.mono ?_
  rintro e w' ⟨rfl, k, os, rfl⟩
  have hb := Go.Lib.below_grow w.heap.size w (Nat.le_refl _) k os
  generalize Go.Sort.grow (w.drewN k) os = w1 at *
  go_wp2_with fail
  go_ret
  exact ⟨rfl, hb⟩

end Go.Proofs.YtdfgpaoehikdpabDoor.Calc
