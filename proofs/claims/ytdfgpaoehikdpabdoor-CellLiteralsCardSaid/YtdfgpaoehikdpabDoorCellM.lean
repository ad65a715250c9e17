/- A value's literal by the document. -/
import Derived.Test.YtdfgpaoehikdpabDoorCellL
namespace Go.Proofs.YtdfgpaoehikdpabDoor.Cell
open Go.RowKit Go.Proofs.YtdfgpaoehikdpabDoor.Nums
set_option linter.unusedVariables false
set_option maxRecDepth 100000

theorem sz_add (a b : List UInt8) : (sz a ++ sz b : ByteArray) = sz (a ++ b) := by
  apply ByteArray.ext
  apply Array.ext'
  rw [ByteArray.data_append, Array.toList_append]
  simp [sz]
theorem one_of (s : ByteArray) (m : Nat) (h : m < s.size) : s.extract m (m + 1) = sz [s[m]] := by
  apply ByteArray.ext
  apply Array.ext'
  rw [Go.Lib.extract_data]
  have e : s.data.toList.length = s.size := Array.length_toList
  rw [List.drop_eq_getElem_cons (by omega)]
  show (s.data.toList[m] :: s.data.toList.drop (m + 1)).take (m + 1 - m) = [s[m]]
  rw [show m + 1 - m = 1 by omega]
  rfl
theorem piece1 (s : ByteArray) (l : List UInt8) (m : Nat) (h : m < s.size) : (sz l ++ s.extract m (m + 1) : ByteArray) = sz (l ++ [s[m]]) := by rw [one_of s m h, sz_add]
theorem piece2 (s : ByteArray) (l : List UInt8) (m : Nat) (h : m < s.size) (e : s[m] = 39) : ((sz l ++ s.extract m (m + 1) : ByteArray) ++ ({ data := #[39] } : ByteArray) : ByteArray) = sz (l ++ [39, 39]) := by
  rw [piece1 s l m h, e, show ({ data := #[39] } : ByteArray) = sz [39] from rfl, sz_add, List.append_assoc]; rfl
theorem dbl_next (s : ByteArray) (m : Nat) (h : m < s.size) : (s[m] = 39 → 39 :: dbl (s.data.toList.take (m + 1)) = (39 :: dbl (s.data.toList.take m)) ++ [39, 39]) ∧ (s[m] ≠ 39 → 39 :: dbl (s.data.toList.take (m + 1)) = (39 :: dbl (s.data.toList.take m)) ++ [s[m]]) := by
  have e : s.data.toList.take (m + 1) = s.data.toList.take m ++ [s[m]] := by
    rw [List.take_succ_eq_append_getElem (by simpa using h)]; rfl
  rw [e, dbl_app]
  constructor
  · intro g; rw [g]; rfl
  · intro g
    show 39 :: (dbl (s.data.toList.take m) ++ (if s[m] = 39 then 39 :: 39 :: dbl [] else s[m] :: dbl [])) = _
    rw [if_neg g]; rfl
theorem rlit_nil (i : Int) (s : ByteArray) (b : Bool) (w : World) :
    Calls Tryd.prog 25 #[.agg #[.int .u8 0, .int .i64 i, .string s, .bool b]] w fun e w' => e = .returned (.string ⟨#[78, 85, 76, 76]⟩) ∧ Below w.heap.size w w' := by
  have HX := Lib.hid (box_new w 0 i s b)
  have HB := Lib.hid (bel_alloc w (.cells #[.int .u8 0, .int .i64 i, .string s, .bool b] 24))
  have x0 := HX.out.c0
  have x1 := HX.out.c1
  have x2 := HX.out.c2
  have x3 := HX.out.c3
  have x4 := HX.out.lt
  generalize hW : w.alloc (.cells #[.int .u8 0, .int .i64 i, .string s, .bool b] 24) = W at *
  have HW := Lib.hid hW
  clear hW
  go_enter Tryd.func25, Tryd.ntmps25
  go_wp2_with fail
  rw [HW.out]
  go_wp2_with fail
  go_ret
  exact ⟨rfl, HB.out⟩
theorem rlit_true (i : Int) (s : ByteArray) (w : World) :
    Calls Tryd.prog 25 #[.agg #[.int .u8 3, .int .i64 i, .string s, .bool true]] w fun e w' => e = .returned (.string ⟨#[84, 82, 85, 69]⟩) ∧ Below w.heap.size w w' := by
  have HX := Lib.hid (box_new w 3 i s true)
  have HB := Lib.hid (bel_alloc w (.cells #[.int .u8 3, .int .i64 i, .string s, .bool true] 24))
  have x0 := HX.out.c0
  have x1 := HX.out.c1
  have x2 := HX.out.c2
  have x3 := HX.out.c3
  have x4 := HX.out.lt
  generalize hW : w.alloc (.cells #[.int .u8 3, .int .i64 i, .string s, .bool true] 24) = W at *
  have HW := Lib.hid hW
  clear hW
  go_enter Tryd.func25, Tryd.ntmps25
  go_wp2_with fail
  rw [HW.out]
  go_wp2_with fail
  go_ret
  exact ⟨rfl, HB.out⟩
theorem rlit_false (i : Int) (s : ByteArray) (w : World) :
    Calls Tryd.prog 25 #[.agg #[.int .u8 3, .int .i64 i, .string s, .bool false]] w fun e w' => e = .returned (.string ⟨#[70, 65, 76, 83, 69]⟩) ∧ Below w.heap.size w w' := by
  have HX := Lib.hid (box_new w 3 i s false)
  have HB := Lib.hid (bel_alloc w (.cells #[.int .u8 3, .int .i64 i, .string s, .bool false] 24))
  have x0 := HX.out.c0
  have x1 := HX.out.c1
  have x2 := HX.out.c2
  have x3 := HX.out.c3
  have x4 := HX.out.lt
  generalize hW : w.alloc (.cells #[.int .u8 3, .int .i64 i, .string s, .bool false] 24) = W at *
  have HW := Lib.hid hW
  clear hW
  go_enter Tryd.func25, Tryd.ntmps25
  go_wp2_with fail
  rw [HW.out]
  go_wp2_with fail
  go_ret
  exact ⟨rfl, HB.out⟩
theorem rlit_int (i : Int) (s : ByteArray) (b : Bool) (hi : In64 i) (w : World) :
    Calls Tryd.prog 25 #[.agg #[.int .u8 1, .int .i64 i, .string s, .bool b]] w fun e w' => e = .returned (.string ⟨(Go.Lib.itoa i).toArray⟩) ∧ Below w.heap.size w w' := by
  have HX := Lib.hid (box_new w 1 i s b)
  have HB := Lib.hid (bel_alloc w (.cells #[.int .u8 1, .int .i64 i, .string s, .bool b] 24))
  have x0 := HX.out.c0
  have x1 := HX.out.c1
  have x2 := HX.out.c2
  have x3 := HX.out.c3
  have x4 := HX.out.lt
  generalize hW : w.alloc (.cells #[.int .u8 1, .int .i64 i, .string s, .bool b] 24) = W at *
  have HW := Lib.hid hW
  clear hW
  go_enter Tryd.func25, Tryd.ntmps25
  go_wp2_with fail
  rw [HW.out]
  go_wp2_with fail
  refine (Calc.ref_dec i hi _).mono ?_
  rintro e w4 ⟨rfl, rfl⟩
  go_wp2_with fail
  go_ret
  exact ⟨rfl, HB.out⟩
theorem rlit_text (i : Int) (s : ByteArray) (b : Bool) (hs : s.size ≤ 60) (w : World) :
    Calls Tryd.prog 25 #[.agg #[.int .u8 2, .int .i64 i, .string s, .bool b]] w fun e w' => e = .returned (.string ⟨(litT s).toArray⟩) ∧ Below w.heap.size w w' := by
  have HX := Lib.hid (box_new w 2 i s b)
  have HB := Lib.hid (bel_alloc w (.cells #[.int .u8 2, .int .i64 i, .string s, .bool b] 24))
  have x0 := HX.out.c0
  have x1 := HX.out.c1
  have x2 := HX.out.c2
  have x3 := HX.out.c3
  have x4 := HX.out.lt
  generalize hW : w.alloc (.cells #[.int .u8 2, .int .i64 i, .string s, .bool b] 24) = W at *
  have HW := Lib.hid hW
  clear hW
  go_enter Tryd.func25, Tryd.ntmps25
  go_wp2_with fail
  rw [HW.out]
  go_wp2_with fail
  go_loop [3, 4] (fun x u => ∃ m : Nat, m ≤ s.size ∧ u = .int .i64 m ∧ x = .string (sz (39 :: dbl (s.data.toList.take m)))) (fun x u => s.size - (intOf u).toNat)
  case atStart => exact ⟨0, Nat.zero_le _, rfl, rfl⟩
  case round =>
    obtain ⟨m, hm, rfl, rfl⟩ := hrel
    have hl : (39 :: dbl (s.data.toList.take m)).length ≤ 121 := by
      have h1 : (s.data.toList.take m).count 39 ≤ (s.data.toList.take m).length := List.count_le_length
      have h2 : (s.data.toList.take m).length ≤ m := by rw [List.length_take]; omega
      rw [List.length_cons, dbl_len]; omega
    have hz : (sz (39 :: dbl (s.data.toList.take m))).size ≤ 121 := hl
    clear hl
    by_cases hlt : m < s.size
    · have hP := Lib.hid (dbl_next s m hlt)
      by_cases q : (s[m].toNat : Int) = 39
      · have q' : ((s[m].toNat : Int) == 39) = true := by simpa using q
        have hQ := Lib.hid q
        clear q
        generalize 39 :: dbl (s.data.toList.take m) = l at *
        go_wp2_with fail
        go_round
        case rel => exact ⟨m + 1, by omega, by go_num, congrArg Value.string (by rw [hP.out.1 (UInt8.toNat_inj.mp (by have h := hQ.out; show s[m].toNat = 39; omega))]; exact piece2 s l m hlt (UInt8.toNat_inj.mp (by have h := hQ.out; show s[m].toNat = 39; omega)))⟩
        case measure => simp [intOf]; omega
      · have q' : ((s[m].toNat : Int) == 39) = false := by simpa using q
        have hQ := Lib.hid q
        clear q
        generalize 39 :: dbl (s.data.toList.take m) = l at *
        go_wp2_with fail
        go_round
        case rel => exact ⟨m + 1, by omega, by go_num, congrArg Value.string (by rw [hP.out.2 (fun e => hQ.out (by rw [e]; rfl))]; exact piece1 s l m hlt)⟩
        case measure => simp [intOf]; omega
    · obtain rfl : m = s.size := by omega
      have hE : Hid (litT s = 39 :: dbl (s.data.toList.take s.size) ++ [39]) := Lib.hid (by rw [litT_dbl, List.take_of_length_le (l := s.data.toList) (i := s.size) (Nat.le_of_eq Array.length_toList), List.cons_append])
      generalize 39 :: dbl (s.data.toList.take s.size) = l at *
      go_wp2_with fail
      go_ret
      exact ⟨by rw [hE.out]; exact congrArg (fun b => Ending.returned (.string b)) (sz_add l [39]), HB.out⟩
end Go.Proofs.YtdfgpaoehikdpabDoor.Cell
