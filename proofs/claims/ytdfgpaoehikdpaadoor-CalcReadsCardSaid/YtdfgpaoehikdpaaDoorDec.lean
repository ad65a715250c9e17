/- The document's reading of digits, and its digits of a number; calc.Dec: what they give. -/
import Derived.Test.YtdfgpaoehikdpaaDoorRead
import Derived.Test.YtdfgpaoehikdpaaDoorDigits
import Derived.Test.YtdfgpaoehikdpaaDoorShelf
import Derived.WalkSpells
import Derived.WalkLawsBesides
import Derived.Lib.AppendIntMem
namespace Go.Proofs.YtdfgpaoehikdpaaDoor.Calc
open Go.RowKit Go.Proofs.YtdfgpaoehikdpaaDoor.Nums
set_option linter.unusedVariables false

def strLen : Value → Nat | .string s => s.size | _ => 0
theorem ref_read_empty (s : ByteArray) (h0 : s.size = 0) (w : World) :
    Calls Tryd.prog 6 #[.string s] w fun e w' => e = .returned (.tuple #[.int .i64 (readN s.data.toList), .int .i64 (readE s.data.toList)]) ∧ w = w' := by
  have e0 : s.data.toList = [] := List.eq_nil_of_length_eq_zero (by simpa using h0)
  go_enter Tryd.func6, Tryd.ntmps6
  go_wp2_with fail
  go_ret2
  exact ⟨by rw [e0]; rfl, rfl⟩

theorem getElem_eq (s : ByteArray) (k : Nat) (h : k < s.size) : s.data.toList[k]? = some s[k] := by
  rw [List.getElem?_eq_getElem (by simpa using h)]; rfl

theorem strip_one (t : ByteArray) (h : 0 < t.size) (g : t[0].toNat = 48) : t.data.toList = 48 :: (t.extract 1 t.size).data.toList := by
  have e : (t.extract 1 t.size).data.toList = t.data.toList.drop 1 := by
    rw [Go.Lib.extract_data]
    exact List.take_of_length_le (by simp)
  rw [e]
  have h0 := getElem_eq t 0 h
  match hl : t.data.toList with
  | [] => rw [hl] at h0; simp at h0
  | c :: r =>
    rw [hl] at h0
    simp at h0
    have : c = 48 := by rw [h0]; exact UInt8.toNat_inj.1 g
    simp [this]
theorem ref_read (s : ByteArray) (hs : s.size ≤ maxLen) (w : World) :
    Calls Tryd.prog 6 #[.string s] w fun e w' => e = .returned (.tuple #[.int .i64 (readN s.data.toList), .int .i64 (readE s.data.toList)]) ∧ w = w' := by
  by_cases h0 : s.size = 0
  · exact ref_read_empty s h0 w
  unfold maxLen at hs
  have h1 : ((s.size : Int) == 0) = false := by simpa using h0
  have hne : s.data.toList ≠ [] := by intro h; apply h0; have := congrArg List.length h; simpa using this
  have HNE := Lib.hid hne
  have h2 : 1 ≤ s.size := by omega
  clear h0 hne
  go_enter Tryd.func6, Tryd.ntmps6
  go_wp2_with fail
  go_loop [4] (fun i => ∃ k : Nat, k ≤ s.size ∧ i = .int .i64 k ∧ (s.data.toList.take k).all isDig = true) (fun i => s.size - (intOf i).toNat)
  case atStart => exact ⟨0, Nat.zero_le _, rfl, rfl⟩
  case round =>
    obtain ⟨k, hk, rfl, hall⟩ := hrel
    by_cases hp : k < s.size
    · by_cases hd : isDig s[k] = true
      · have hd1 : 48 ≤ (s[k].toNat : Int) := (dig_bd hd).1
        have hd2 : (s[k].toNat : Int) ≤ 57 := (dig_bd hd).2
        have HA : Hid ((s.data.toList.take (k + 1)).all isDig = true) := Lib.hid (by rw [take_snoc s k hp]; simp [hd]; simpa using hall)
        clear hall hd
        go_wp2_with fail
        go_round
        case rel => exact ⟨k + 1, by omega, by go_num, HA.out⟩
        case measure => simp [intOf]; omega
      · have HF : Hid (readN s.data.toList = 0 ∧ readE s.data.toList = 3) := Lib.hid (by
          have : ¬ (s.data.toList ≠ [] ∧ s.data.toList.all isDig = true) := by
            intro ⟨_, h⟩
            exact hd (List.all_eq_true.1 h _ (by
              show s.data[k] ∈ s.data.toList
              simp))
          unfold readN readE
          rw [if_neg this, if_neg this]; exact ⟨rfl, rfl⟩)
        have hlt : (s[k].toNat : Int) < 48 ∨ 57 < (s[k].toNat : Int) := by
          unfold isDig at hd; simp at hd; omega
        clear hall hd
        rcases hlt with h | h
        · go_wp2_with fail
          go_ret2
          exact ⟨by rw [HF.out.1, HF.out.2]; rfl, rfl⟩
        · go_wp2_with fail
          go_ret2
          exact ⟨by rw [HF.out.1, HF.out.2]; rfl, rfl⟩
    · have HALL : Hid (s.data.toList.all isDig = true) := Lib.hid (by
        rw [List.take_of_length_le (by simp; omega)] at hall; exact hall)
      clear hall
      go_wp2_with fail
      go_loop [0] (fun x => ∃ t : ByteArray, x = .string t ∧ 1 ≤ t.size ∧ t.size ≤ s.size ∧ t.data.toList.all isDig = true ∧ valL t.data.toList = valL s.data.toList) (fun x => strLen x)
      case atStart => exact ⟨s, rfl, h2, Nat.le_refl _, HALL.out, rfl⟩
      case round =>
        obtain ⟨t, rfl, t1, t2, t3, t4⟩ := hrel
        have T3 := Lib.hid t3
        have T4 := Lib.hid t4
        clear t3 t4
        by_cases g1 : 1 < t.size
        · have hz0 : 0 < t.size := by omega
          by_cases g2 : t[0].toNat = 48
          · have g3 : ((t[0].toNat : Int) == 48) = true := by simp [g2]
            have HN : Hid ((t.extract 1 t.size).size = t.size - 1) := Lib.hid (by simp)
            have HL : Hid (t.data.toList = 48 :: (t.extract 1 t.size).data.toList) := Lib.hid (strip_one t hz0 g2)
            clear g2
            go_wp2_with fail
            go_round
            case rel =>
              refine ⟨t.extract 1 t.size, rfl, by rw [HN.out]; omega, by rw [HN.out]; omega, ?_, ?_⟩
              · have := T3.out; rw [HL.out] at this; simp at this; simpa using this.2
              · rw [← T4.out, HL.out, valL_zero]
            case measure => simp [strLen]; omega
          · have g3 : ((t[0].toNat : Int) == 48) = false := by simp; omega
            have HX : Hid (t.data.toList.head? ≠ some 48) := Lib.hid (fun e => g2 (by
              have h0 := getElem_eq t 0 hz0
              rw [← List.head?_eq_getElem?, e] at h0
              have h1 := Option.some.inj h0
              rw [← h1]; rfl))
            clear g2
            by_cases c1 : 19 < t.size
            · have c0 : (19 : Int) < (t.size : Int) := by omega
              have HF : Hid (readN s.data.toList = 0 ∧ readE s.data.toList = 9) := Lib.hid (by
                have r := read_of HNE.out HALL.out
                have := val_long T3.out HX.out (by simpa using c1)
                rw [T4.out] at this
                rw [if_neg this, if_neg this] at r
                exact r)
              go_wp2_with fail
              go_ret2
              exact ⟨by rw [HF.out.1, HF.out.2]; rfl, rfl⟩
            by_cases c2 : valL t.data.toList ≤ 9223372036854775807
            · have HF : Hid (readN s.data.toList = valL t.data.toList ∧ readE s.data.toList = 0) := Lib.hid (by
                have r := read_of HNE.out HALL.out
                rw [← T4.out, if_pos c2, if_pos c2] at r
                exact r)
              have HS : Hid (t.size = 19 → (!Go.Op.bytesLess t.toList maxDigits && !(t.toList == maxDigits)) = false) := Lib.hid (fun c => by
                rw [ByteArray.toList_eq, val_nineteen T3.out (by simpa using c)]; simp [c2])
              have HB := Lib.hid (fun k => valL_take t.data.toList T3.out k)
              by_cases c3 : t.size = 19
              · have c4 : ((t.size : Int) == 19) = true := by simp [c3]
                have c5 := HS.out c3
                unfold maxDigits at c5
                have c6 : ¬ (19 : Int) < (t.size : Int) := by omega
                go_wp2_with fail
                go_loop [5, 6] (fun nn i => ∃ k : Nat, k ≤ t.size ∧ i = .int .i64 k ∧ nn = .int .i64 (valL (t.data.toList.take k))) (fun _ i => t.size - (intOf i).toNat)
                case atStart => exact ⟨0, Nat.zero_le _, rfl, rfl⟩
                case round =>
                  obtain ⟨k, hk, rfl, rfl⟩ := hrel
                  by_cases hp : k < t.size
                  · have hd : isDig t[k] = true := List.all_eq_true.1 T3.out _ (by show t.data[k] ∈ t.data.toList; simp)
                    have hd1 : 48 ≤ (t[k].toNat : Int) := (dig_bd hd).1
                    have hd2 : (t[k].toNat : Int) ≤ 57 := (dig_bd hd).2
                    have b1 := (HB.out k).2
                    have b2 := (HB.out (k + 1)).1
                    have HE : Hid (valL (t.data.toList.take (k + 1)) = 10 * valL (t.data.toList.take k) + ((t[k].toNat : Int) - 48)) := Lib.hid (by rw [take_snoc t k hp, valL_snoc])
                    rw [HE.out] at b2
                    have b3 := Int.le_trans b2 c2
                    clear hd b2
                    generalize valL (t.data.toList.take k) = v at *
                    go_wp2_with fail
                    go_round
                    case rel => exact ⟨k + 1, by omega, by go_num, by rw [HE.out]⟩
                    case measure => simp [intOf]; omega
                  · have HE : Hid (valL (t.data.toList.take k) = valL t.data.toList) := Lib.hid (by rw [List.take_of_length_le (by simp; omega)])
                    go_wp2_with fail
                    go_ret2
                    exact ⟨by rw [HF.out.1, HF.out.2, ← HE.out]; rfl, rfl⟩
              · have c4 : ((t.size : Int) == 19) = false := by simp; omega
                have c6 : ¬ (19 : Int) < (t.size : Int) := by omega
                go_wp2_with fail
                go_loop [5, 6] (fun nn i => ∃ k : Nat, k ≤ t.size ∧ i = .int .i64 k ∧ nn = .int .i64 (valL (t.data.toList.take k))) (fun _ i => t.size - (intOf i).toNat)
                case atStart => exact ⟨0, Nat.zero_le _, rfl, rfl⟩
                case round =>
                  obtain ⟨k, hk, rfl, rfl⟩ := hrel
                  by_cases hp : k < t.size
                  · have hd : isDig t[k] = true := List.all_eq_true.1 T3.out _ (by show t.data[k] ∈ t.data.toList; simp)
                    have hd1 : 48 ≤ (t[k].toNat : Int) := (dig_bd hd).1
                    have hd2 : (t[k].toNat : Int) ≤ 57 := (dig_bd hd).2
                    have b1 := (HB.out k).2
                    have b2 := (HB.out (k + 1)).1
                    have HE : Hid (valL (t.data.toList.take (k + 1)) = 10 * valL (t.data.toList.take k) + ((t[k].toNat : Int) - 48)) := Lib.hid (by rw [take_snoc t k hp, valL_snoc])
                    rw [HE.out] at b2
                    have b3 := Int.le_trans b2 c2
                    clear hd b2
                    generalize valL (t.data.toList.take k) = v at *
                    go_wp2_with fail
                    go_round
                    case rel => exact ⟨k + 1, by omega, by go_num, by rw [HE.out]⟩
                    case measure => simp [intOf]; omega
                  · have HE : Hid (valL (t.data.toList.take k) = valL t.data.toList) := Lib.hid (by rw [List.take_of_length_le (by simp; omega)])
                    go_wp2_with fail
                    go_ret2
                    exact ⟨by rw [HF.out.1, HF.out.2, ← HE.out]; rfl, rfl⟩
            · have HF : Hid (readN s.data.toList = 0 ∧ readE s.data.toList = 9) := Lib.hid (by
                have r := read_of HNE.out HALL.out
                rw [← T4.out, if_neg c2, if_neg c2] at r
                exact r)
              have c3 : t.size = 19 := by
                by_cases h : t.size ≤ 18
                · exact absurd (val_short T3.out (by simpa using h)) c2
                · omega
              have c5 : (!Go.Op.bytesLess t.toList maxDigits && !(t.toList == maxDigits)) = true := by
                rw [ByteArray.toList_eq, val_nineteen T3.out (by simpa using c3)]; simp [c2]
              have c4 : ((t.size : Int) == 19) = true := by simp [c3]
              have c6 : ¬ (19 : Int) < (t.size : Int) := by omega
              unfold maxDigits at c5
              rw [Bool.and_eq_true, Bool.not_eq_true', Bool.not_eq_true'] at c5
              obtain ⟨c5, c7⟩ := c5
              clear c2 c3
              go_wp2_with fail
              go_ret2
              exact ⟨by rw [HF.out.1, HF.out.2]; rfl, rfl⟩
        · have z1 : t.size = 1 := by omega
          have z2 : (t.size : Int) ≤ 1 := by omega
          have c2 : valL t.data.toList ≤ 9223372036854775807 := val_short T3.out (by simp; omega)
          have HF : Hid (readN s.data.toList = valL t.data.toList ∧ readE s.data.toList = 0) := Lib.hid (by
            have r := read_of HNE.out HALL.out
            rw [← T4.out, if_pos c2, if_pos c2] at r
            exact r)
          have HB := Lib.hid (fun k => valL_take t.data.toList T3.out k)
          have c4 : ((t.size : Int) == 19) = false := by simp; omega
          have c6 : ¬ (19 : Int) < (t.size : Int) := by omega
          clear z1
          go_wp2_with fail
          go_loop [5, 6] (fun nn i => ∃ k : Nat, k ≤ t.size ∧ i = .int .i64 k ∧ nn = .int .i64 (valL (t.data.toList.take k))) (fun _ i => t.size - (intOf i).toNat)
          case atStart => exact ⟨0, Nat.zero_le _, rfl, rfl⟩
          case round =>
            obtain ⟨k, hk, rfl, rfl⟩ := hrel
            by_cases hp : k < t.size
            · have hd : isDig t[k] = true := List.all_eq_true.1 T3.out _ (by show t.data[k] ∈ t.data.toList; simp)
              have hd1 : 48 ≤ (t[k].toNat : Int) := (dig_bd hd).1
              have hd2 : (t[k].toNat : Int) ≤ 57 := (dig_bd hd).2
              have b1 := (HB.out k).2
              have b2 := (HB.out (k + 1)).1
              have HE : Hid (valL (t.data.toList.take (k + 1)) = 10 * valL (t.data.toList.take k) + ((t[k].toNat : Int) - 48)) := Lib.hid (by rw [take_snoc t k hp, valL_snoc])
              rw [HE.out] at b2
              have b3 := Int.le_trans b2 c2
              clear hd b2
              generalize valL (t.data.toList.take k) = v at *
              go_wp2_with fail
              go_round
              case rel => exact ⟨k + 1, by omega, by go_num, by rw [HE.out]⟩
              case measure => simp [intOf]; omega
            · have HE : Hid (valL (t.data.toList.take k) = valL t.data.toList) := Lib.hid (by rw [List.take_of_length_le (by simp; omega)])
              go_wp2_with fail
              go_ret2
              exact ⟨by rw [HF.out.1, HF.out.2, ← HE.out]; rfl, rfl⟩

/-- the digits that are there, ahead of them those of the rest, if any is left -/
def decTo (l : List UInt8) (m : Nat) : List UInt8 := if l ≠ [] ∧ m = 0 then l else Go.Lib.decDigits m ++ l
theorem decTo_step (l : List UInt8) (m : Nat) (h : l = [] ∨ 0 < m) : decTo (UInt8.ofNat (48 + m % 10) :: l) (m / 10) = decTo l m := by
  have e : decTo l m = Go.Lib.decDigits m ++ l := if_neg (by intro ⟨a, b⟩; rcases h with h | h; exact a h; omega)
  rw [e, Go.Lib.decDigits]
  unfold decTo
  by_cases g : m < 10
  · rw [if_pos ⟨by simp, by omega⟩, dif_pos g, show m % 10 = m by omega]; rfl
  · rw [if_neg (by omega), dif_neg g]; simp
theorem dig_piece (k : Nat) (hk : k < 10) (l : List UInt8) : (({ data := #[48, 49, 50, 51, 52, 53, 54, 55, 56, 57] } : ByteArray).extract k (k + 1) ++ { data := l.toArray } : ByteArray) = { data := (UInt8.ofNat (48 + k) :: l).toArray } := by
  have e : ∀ k : Fin 10, ((([48, 49, 50, 51, 52, 53, 54, 55, 56, 57] : List UInt8).drop k.val).take (k.val + 1 - k.val)) = [UInt8.ofNat (48 + k.val)] := by decide
  apply ByteArray.ext
  apply Array.ext'
  rw [ByteArray.data_append, Array.toList_append, Go.Lib.extract_data, e ⟨k, hk⟩]
  rfl
theorem minus (l : List UInt8) : (({ data := #[45] } : ByteArray) ++ { data := l.toArray } : ByteArray) = { data := (45 :: l).toArray } := by
  apply ByteArray.ext
  apply Array.ext'
  rw [ByteArray.data_append, Array.toList_append]
  rfl
theorem dig_len (k : Nat) (hk : k < 10) (l : List UInt8) : strLen (.string (({ data := #[48, 49, 50, 51, 52, 53, 54, 55, 56, 57] } : ByteArray).extract k (k + 1) ++ { data := l.toArray } : ByteArray)) = l.length + 1 := by
  rw [dig_piece k hk l]; rfl
theorem decTo_len (l : List UInt8) (m : Nat) (h : (decTo l m).length ≤ 19) : l.length ≤ 19 := by
  unfold decTo at h
  split at h
  · exact h
  · simp at h; omega
theorem measure_down (m : Nat) (x y : Value) (hx : strLen x ≠ 0) (h : 0 < m ∨ strLen y = 0) : (2 * (intOf (.int .u64 ((m : Int) / 10))).toNat + if strLen x = 0 then 1 else 0) < 2 * (intOf (.int .u64 (m : Int))).toNat + if strLen y = 0 then 1 else 0 := by
  rw [if_neg hx]
  simp only [intOf]
  rcases h with h | h
  · omega
  · rw [if_pos h]; omega
theorem ref_dec (n : Int) (hn : In64 n) (w : World) :
    Calls Tryd.prog 8 #[.int .i64 n] w fun e w' => e = .returned (.string ⟨(Go.Lib.itoa n).toArray⟩) ∧ w = w' := by
  have hm := mag_bd hn
  have HLEN := Lib.hid (dec_len19 n hn)
  go_enter Tryd.func8, Tryd.ntmps8
  go_wp2_with (go_at_call 14; refine (size_any _ (by assumption) _).mono ?_; rintro e w' ⟨rfl, rfl⟩)
  go_loop [3, 4] (fun x u => ∃ (l : List UInt8) (m : Nat), x = .string ⟨l.toArray⟩ ∧ u = .int .u64 m ∧ (m : Int) ≤ 9223372036854775808 ∧ decTo l m = Go.Lib.decDigits n.natAbs) (fun x u => 2 * (intOf u).toNat + (if strLen x = 0 then 1 else 0))
  case atStart => exact ⟨[], n.natAbs, rfl, by rw [mag_abs], by rw [← mag_abs]; exact hm.2, by simp [decTo]⟩
  case round =>
    obtain ⟨l, m, rfl, rfl, h1, h3⟩ := hrel
    have hlen : l.length ≤ 19 := decTo_len l m (by rw [h3]; exact HLEN.out)
    have H3 := Lib.hid h3
    clear h3
    by_cases hl : l = []
    · subst hl
      by_cases hz : 0 < m
      · have z1 : (0 : Int) < (m : Int) := by omega
        go_wp2_with fail
        exact ⟨⟨UInt8.ofNat (48 + m % 10) :: [], m / 10, congrArg Value.string (dig_piece (m % 10) (by omega) []), by go_num, by omega, (decTo_step [] m (.inl rfl)).trans H3.out⟩, measure_down m _ _ (by rw [show strLen _ = _ from dig_len (m % 10) (by omega) []]; simp) (.inl hz)⟩
      · obtain rfl : m = 0 := by omega
        go_wp2_with fail
        exact ⟨⟨UInt8.ofNat (48 + 0 % 10) :: [], 0 / 10, congrArg Value.string (dig_piece 0 (by omega) []), rfl, by omega, (decTo_step [] 0 (.inl rfl)).trans H3.out⟩, measure_down 0 _ _ (by rw [show strLen _ = _ from dig_len 0 (by omega) []]; simp) (.inr rfl)⟩
    · have hl2 : l.isEmpty = false := by simpa using hl
      have HL := Lib.hid hl
      clear hl
      by_cases hz : 0 < m
      · have z1 : (0 : Int) < (m : Int) := by omega
        go_wp2_with fail
        exact ⟨⟨UInt8.ofNat (48 + m % 10) :: l, m / 10, congrArg Value.string (dig_piece (m % 10) (by omega) l), by go_num, by omega, (decTo_step l m (.inr hz)).trans H3.out⟩, measure_down m _ _ (by rw [show strLen _ = _ from dig_len (m % 10) (by omega) l]; simp) (.inl hz)⟩
      · obtain rfl : m = 0 := by omega
        have HE : Hid (l = Go.Lib.decDigits n.natAbs) := Lib.hid (by rw [← H3.out, decTo, if_pos ⟨HL.out, rfl⟩])
        by_cases hn0 : n < 0
        · have HI : Hid (Go.Lib.itoa n = 45 :: l) := Lib.hid (by rw [HE.out, Go.Lib.itoa, if_pos hn0])
          go_wp2_with fail
          go_ret
          exact ⟨by rw [HI.out]; exact congrArg (fun b => Ending.returned (.string b)) (minus l), rfl⟩
        · have HI : Hid (Go.Lib.itoa n = l) := Lib.hid (by rw [HE.out, Go.Lib.itoa, if_neg hn0]; congr 1; omega)
          go_wp2_with fail
          go_ret
          exact ⟨by rw [HI.out]; rfl, rfl⟩
end Go.Proofs.YtdfgpaoehikdpaaDoor.Calc
