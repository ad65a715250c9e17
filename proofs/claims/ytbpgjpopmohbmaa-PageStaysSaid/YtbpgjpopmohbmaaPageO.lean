/- Page.Bytes; Insert where there is no room. -/
import Derived.Test.YtbpgjpopmohbmaaPageI
namespace Go.Proofs.Ytbpgjpopmohbmaa.Mem
open Go.RowKit Go.Proofs.Ytbpgjpopmohbmaa.Nums
set_option linter.unusedVariables false
set_option linter.unusedSimpArgs false
set_option maxRecDepth 100000
set_option maxHeartbeats 1000000
theorem bytes_nil (w : World) : Calls Try.prog 19 #[.pointer none] w fun e w' => e = .returned (.slice none 0 0) ∧ w = w' := by
  go_enter Try.func19, Try.ntmps19
  go_wp2_with fail
  go_ret
  exact ⟨rfl, rfl⟩
theorem bytes_pg (P : Nat) (X : List UInt8) (w : World) (hp : Pg w P X) :
    Calls Try.prog 19 #[.pointer (some ⟨P, 0, none⟩)] w fun e w' => ∃ v, e = .returned v ∧ OwnB w' w.heap.size v 512 (u8s X) ∧ Below w.heap.size w w' := by
  have hs := BB.sl hp.1 0 512 512 (by rw [hp.2]; omega) (by omega) (by unfold maxLen; omega)
  rw [List.drop_zero, List.take_of_length_le (by rw [hp.2]; exact Nat.le_refl _)] at hs
  have C := Lib.hid (clone_any X ⟨P, 0, none⟩ 512 512 w hs (by omega))
  clear hs hp
  go_enter Try.func19, Try.ntmps19
  go_wp2_with fail
  refine C.out.mono ?_
  rintro e w1 ⟨v, rfl, hown, hb⟩
  have HO := Lib.hid hown
  have HB := Lib.hid hb
  clear hown hb
  go_wp2_with fail
  go_ret
  exact ⟨_, rfl, HO.out, HB.out⟩
theorem insert_full (P q r a b n c : Nat) (p s : Int) (A : Option Addr) (X : List UInt8) (w : World) (hp : Pg w P X) (hF : Fine X) (hq : IsNext X q) (hok : tuOk r a b p s n = true) (hc : n ≤ c) (hcm : c ≤ maxLen) (hroom : roomN X q < (n : Int)) :
    Calls Try.prog 34 #[.pointer (some ⟨P, 0, none⟩), .agg #[.int .u64 r, .int .u64 a, .int .u64 b, .int .i64 p, .int .i64 s, .slice A n c]] w fun e w' => e = .returned (.tuple #[.int .i64 0, .int .i64 12]) ∧ Below w.heap.size w w' := by
  have HP := Lib.hid hp
  have HF := Lib.hid hF
  have HQ := Lib.hid hq
  have hb4 := at_new w #[.int .u64 r, .int .u64 a, .int .u64 b, .int .i64 p, .int .i64 s, .slice A n c] 33
  have H5 : Hid ((w.alloc (.cells #[.int .u64 r, .int .u64 a, .int .u64 b, .int .i64 p, .int .i64 s, .slice A n c] 33)).cell? ⟨w.heap.size, 5, none⟩ = some (.slice A n c)) := Lib.hid (by have h := hb4.2 5 (.slice A n c) rfl; rwa [add_flat] at h)
  have hsx := size_alloc w (.cells #[.int .u64 r, .int .u64 a, .int .u64 b, .int .i64 p, .int .i64 s, .slice A n c] 33)
  have CR := Lib.hid (right_any r a b p s A n c (w.alloc (.cells #[.int .u64 r, .int .u64 a, .int .u64 b, .int .i64 p, .int .i64 s, .slice A n c] 33)))
  rw [hok] at CR
  clear hb4 hp hF hq hok
  go_enter Try.func34, Try.ntmps34
  go_wp2_with fail
  refine CR.out.mono ?_
  rintro e w2 ⟨rfl, hb2⟩
  have HB2 := Lib.hid (bel_trans (bel_alloc w (.cells #[.int .u64 r, .int .u64 a, .int .u64 b, .int .i64 p, .int .i64 s, .slice A n c] 33)) hb2)
  have HP2 : Hid (Pg w2 P X) := Lib.hid ⟨Blk.below HP.out.1 HB2.out (Blk.lt HP.out.1), HP.out.2⟩
  have c5 := (hb2.cell (p := ⟨w.heap.size, 5, none⟩) (by show w.heap.size < _; omega)).trans H5.out
  clear hb2
  go_wp2_with fail
  go_quiet ((go_at_call 21; exact quiet_m (room_q P q X _ (HP2.out.drewN _) HF.out HQ.out)))
  go_wp2_with fail
  go_ret2
  exact ⟨rfl, HB2.out.os, HB2.out.tape, HB2.out.output, HB2.out.size, HB2.out.block⟩
end Go.Proofs.Ytbpgjpopmohbmaa.Mem
