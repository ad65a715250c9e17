/- setBegin, setSlots, New, right. -/
import Derived.Test.YtbpgjpopmohbmaaPageC
namespace Go.Proofs.Ytbpgjpopmohbmaa.Mem
open Go.RowKit Go.Proofs.Ytbpgjpopmohbmaa.Nums
set_option linter.unusedVariables false
set_option linter.unusedSimpArgs false
set_option maxRecDepth 100000
theorem get2_same {X b : List UInt8} {a : Nat} (h : a + b.length ≤ X.length) (h2 : b.length = 2) : get2 (lay X a b) a = leN b := by
  unfold get2 lay
  have h1 : (X.take a).length = a := by rw [List.length_take]; omega
  rw [List.append_assoc, List.drop_append_of_le_length (by omega), List.drop_of_length_le (by omega), List.nil_append, List.take_append_of_le_length (by omega), List.take_of_length_le (by omega)]
theorem get2_other {X b : List UInt8} {a c : Nat} (h : a + b.length ≤ X.length) (h2 : c + 2 ≤ a ∨ a + b.length ≤ c) : get2 (lay X a b) c = get2 X c := by
  unfold get2
  congr 1
  apply List.ext_getElem?
  intro j
  rw [List.getElem?_take, List.getElem?_take]
  split
  · rw [List.getElem?_drop, List.getElem?_drop, lay_other h (by omega)]
  · rfl
theorem Pg.lay {w w' : World} {P : Nat} {X b : List UInt8} {a : Nat} (h : Pg w P X) (hb : BB w' P 113 (lay X a b)) (hl : a + b.length ≤ 512) : Pg w' P (Mem.lay X a b) :=
  ⟨hb, by rw [lay_len (by rw [h.2]; exact hl), h.2]⟩
theorem setBegin_pg (P at_ : Nat) (X : List UInt8) (w : World) (hp : Pg w P X) (ha : at_ ≤ 512) :
    Calls Try.prog 61 #[.pointer (some ⟨P, 0, none⟩), .int .i64 at_] w fun e w' => e = .returned (.tuple #[]) ∧ Pg w' P (lay X 2 (nb at_ 2)) ∧ Only P w w' := by
  have HP := Lib.hid hp
  have C1 := Lib.hid (write_any P 113 X 2 2 510 at_ w hp.1 (by rw [hp.2]; omega) (by omega) (by omega) (by unfold maxLen; omega) (by omega))
  have h1 : IntKind.u64.wrap (at_ : Int) = at_ := by rw [IntKind.wrap_u64]; omega
  clear hp
  go_enter Try.func61, Try.ntmps61
  go_wp2_with fail
  refine C1.out.mono ?_
  rintro e w1 ⟨rfl, hb, ho⟩
  have HB := Lib.hid (Pg.lay HP.out hb (by rw [nb_len]; omega))
  have HO := Lib.hid ho
  clear hb ho
  go_wp2_with fail
  exact bodyPost_end (v := .tuple #[]) (by simp [results, Try.results61, go_sem]) rfl ⟨rfl, HB.out, HO.out⟩
theorem setSlots_pg (P n : Nat) (X : List UInt8) (w : World) (hp : Pg w P X) (ha : n ≤ 512) :
    Calls Try.prog 81 #[.pointer (some ⟨P, 0, none⟩), .int .i64 n] w fun e w' => e = .returned (.tuple #[]) ∧ Pg w' P (lay X 0 (nb n 2)) ∧ Only P w w' := by
  have HP := Lib.hid hp
  have C1 := Lib.hid (write_any P 113 X 0 2 512 n w hp.1 (by rw [hp.2]; omega) (by omega) (by omega) (by unfold maxLen; omega) (by omega))
  have h1 : IntKind.u64.wrap (n : Int) = n := by rw [IntKind.wrap_u64]; omega
  clear hp
  go_enter Try.func81, Try.ntmps81
  go_wp2_with fail
  refine C1.out.mono ?_
  rintro e w1 ⟨rfl, hb, ho⟩
  have HB := Lib.hid (Pg.lay HP.out hb (by rw [nb_len]; omega))
  have HO := Lib.hid ho
  clear hb ho
  go_wp2_with fail
  exact bodyPost_end (v := .tuple #[]) (by simp [results, Try.results81, go_sem]) rfl ⟨rfl, HB.out, HO.out⟩
end Go.Proofs.Ytbpgjpopmohbmaa.Mem
