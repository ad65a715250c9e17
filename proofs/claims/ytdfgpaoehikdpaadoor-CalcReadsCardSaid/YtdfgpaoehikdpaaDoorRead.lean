/- calc.Read: the number of which the bytes are the digits. -/
import Derived.Test.YtdfgpaoehikdpaaDoorCalc
import Derived.Below
namespace Go.Proofs.YtdfgpaoehikdpaaDoor.Calc
open Go.RowKit Go.Proofs.YtdfgpaoehikdpaaDoor.Nums
set_option linter.unusedVariables false

theorem take_snoc (s : ByteArray) (k : Nat) (h : k < s.size) : s.data.toList.take (k + 1) = s.data.toList.take k ++ [s[k]] := by
  rw [List.take_succ_eq_append_getElem (by simpa using h)]; rfl

/-- at a loop's head: the number so far, its error, all bytes so far being digits -/
def ReadRel (s : ByteArray) (w : World) (n e : Value) (w' : World) : Prop :=
  ∃ k : Nat, k ≤ s.size ∧ w' = w.iter s k ∧ n = .int .i64 (readL (s.data.toList.take k)).1 ∧ e = .int .i64 (readL (s.data.toList.take k)).2 ∧ (s.data.toList.take k).all isDig = true

set_option maxRecDepth 100000 in
theorem read_any (s : ByteArray) (hs : s.size ≤ maxLen) (w : World) :
    Calls Tryd.prog 5 #[.string s] w fun e w' => e = .returned (.tuple #[.int .i64 (readN s.data.toList), .int .i64 (readE s.data.toList)]) ∧ Below w.heap.size w w' := by
  unfold maxLen at hs
  by_cases h0 : s.size = 0
  · have e0 : s.data.toList = [] := List.eq_nil_of_length_eq_zero (by simpa using h0)
    have e1 : s.toList = [] := by rw [ByteArray.toList_eq]; exact e0
    go_enter Tryd.func5, Tryd.ntmps5
    go_wp2_with fail
    go_ret2
    exact ⟨by rw [e0]; rfl, Below.refl _ _⟩
  have hne : s.data.toList ≠ [] := by intro h; apply h0; have := congrArg List.length h; simpa using this
  have e1 : s.toList.isEmpty = false := by rw [ByteArray.toList_eq]; simpa using hne
  have HNE := Lib.hid hne
  clear hne h0
  go_enter Tryd.func5, Tryd.ntmps5
  go_wp2_with fail
  go_loopw [4, 5] (fun n e w' => ReadRel s w n e w') (fun _ _ w' => s.size - w'.iterPos w.heap.size)
  case atStart => exact ⟨0, Nat.zero_le _, rfl, rfl, rfl, rfl⟩
  case round =>
    obtain ⟨k, hk, rfl, rfl, rfl, hall⟩ := hrel
    by_cases hp : k < s.size
    · by_cases hd : isDig s[k] = true
      · have ha : s[k].toNat < 128 := by unfold isDig at hd; simp at hd; omega
        have hd1 : 48 ≤ (s[k].toNat : Int) := by unfold isDig at hd; simp at hd; omega
        have hd2 : (s[k].toNat : Int) ≤ 57 := by unfold isDig at hd; simp at hd; omega
        have HA : Hid ((s.data.toList.take (k + 1)).all isDig = true) := Lib.hid (by rw [take_snoc s k hp]; simp [hd]; simpa using hall)
        have HR : Hid (readL (s.data.toList.take (k + 1)) = readStep (readL (s.data.toList.take k)) s[k]) := Lib.hid (by rw [take_snoc s k hp, readL_snoc])
        have hnx : ∀ ty, (Instr.next (.pointer (some ⟨w.heap.size, 0, none⟩)) true ty).run Tryd.prog (w.iter s k) = _ := fun ty => run_next_ascii w s k ty hp ha
        clear hall hd
        have h64 := readL_64 (s.data.toList.take k)
        by_cases he : (readL (s.data.toList.take k)).2 = 0
        · have HR2 : Hid (readL (s.data.toList.take (k + 1)) = (pushN (readL (s.data.toList.take k)).1 ((s[k].toNat : Int) - 48), pushE (readL (s.data.toList.take k)).1 ((s[k].toNat : Int) - 48))) := Lib.hid (by rw [HR.out, readStep, if_pos he])
          clear HR
          rw [he]
          clear he
          generalize (readL (s.data.toList.take k)).1 = nn at *
          go_wp2_with (go_at_call 12; refine (push_any _ _ h64 (by unfold In64; omega) _).mono ?_; rintro e w' ⟨rfl, rfl⟩)
          go_roundw
          case rel => exact ⟨k + 1, hp, rfl, by rw [HR2.out], by rw [HR2.out], HA.out⟩
          case measure => simp; omega
        · have HR2 : Hid (readL (s.data.toList.take (k + 1)) = readL (s.data.toList.take k)) := Lib.hid (by rw [HR.out, readStep, if_neg he])
          clear HR
          have hb : ((readL (s.data.toList.take k)).2 == 0) = false := by simpa using he
          clear he
          generalize (readL (s.data.toList.take k)) = ne at *
          obtain ⟨nn, ee⟩ := ne
          simp only at hb
          go_wp2_with fail
          go_roundw
          case rel => exact ⟨k + 1, hp, rfl, by rw [HR2.out], by rw [HR2.out], HA.out⟩
          case measure => simp; omega
      · have HF : Hid (readN s.data.toList = 0 ∧ readE s.data.toList = 3) := Lib.hid (by
          have : ¬ (s.data.toList ≠ [] ∧ s.data.toList.all isDig = true) := by
            intro ⟨_, h⟩
            exact hd (List.all_eq_true.1 h _ (by
              show s.data[k] ∈ s.data.toList
              simp))
          unfold readN readE
          rw [if_neg this, if_neg this]; exact ⟨rfl, rfl⟩)
        have hlt : ((Utf8.decode s k).1 : Int) < 48 ∨ 57 < ((Utf8.decode s k).1 : Int) := by
          by_cases ha : s[k].toNat < 128
          · rw [decode_ascii s k hp ha]
            unfold isDig at hd; simp at hd; omega
          · have := decode_high s k hp (by omega); omega
        have hnx : ∀ ty, (Instr.next (.pointer (some ⟨w.heap.size, 0, none⟩)) true ty).run Tryd.prog (w.iter s k) = _ := fun ty => run_next_any w s k ty hp
        clear hall hd
        generalize ((Utf8.decode s k).1 : Int) = r at *
        rcases hlt with h | h
        · go_wp2_with fail
          go_ret2
          exact ⟨by rw [HF.out.1, HF.out.2]; rfl, (Below.refl _ _).alloc (Nat.le_refl _) _⟩
        · go_wp2_with fail
          go_ret2
          exact ⟨by rw [HF.out.1, HF.out.2]; rfl, (Below.refl _ _).alloc (Nat.le_refl _) _⟩
    · have hk' : k = s.size := by omega
      have ht : s.data.toList.take k = s.data.toList := List.take_of_length_le (by simp; omega)
      have HF : Hid (readN s.data.toList = (readL (s.data.toList.take k)).1 ∧ readE s.data.toList = (readL (s.data.toList.take k)).2) := Lib.hid (by
        have : s.data.toList ≠ [] ∧ s.data.toList.all isDig = true := ⟨HNE.out, by rw [← ht]; exact hall⟩
        unfold readN readE
        rw [if_pos this, if_pos this, ht]; exact ⟨rfl, rfl⟩)
      have hnx : ∀ ty, (Instr.next (.pointer (some ⟨w.heap.size, 0, none⟩)) true ty).run Tryd.prog (w.iter s k) = _ := fun ty => run_next_end w s k ty hp
      clear hall ht hk'
      go_wp2_with fail
      go_ret2
      exact ⟨by rw [HF.out.1, HF.out.2]; rfl, (Below.refl _ _).alloc (Nat.le_refl _) _⟩
end Go.Proofs.YtdfgpaoehikdpaaDoor.Calc
