/- page.stamp. -/
import Derived.Test.YtbpgjpopmohbmaaPageR
import Derived.Deep.RegionHeld3
namespace Go.Proofs.Ytbpgjpopmohbmaa.Mem
open Go.RowKit Go.Proofs.Ytbpgjpopmohbmaa.Nums
set_option linter.unusedVariables false
set_option linter.unusedSimpArgs false
set_option maxRecDepth 100000
set_option maxHeartbeats 4000000
theorem BB.drew {w : World} {g : Nat} {t : TypeId} {X : List UInt8} (h : BB w g t X) : BB w.drew g t X := h
theorem Only.drew {w w' : World} {g : Nat} (h : Only g w w') : Only g w w'.drew := ⟨h.os, h.tape, h.output, h.size, h.block⟩
theorem Only.cell {w w' : World} {g : Nat} (h : Only g w w') {p : Addr} {v : Value} (hp : p.block < w.heap.size) (hg : p.block ≠ g) (hc : w.cell? p = some v) : w'.cell? p = some v := by
  have hb := h.block p.block hp hg
  rw [← hc]
  unfold World.cell?
  rw [hb]
/-- a version's bytes with the end and the next written over -/
def stampL (X : List UInt8) (a U P1 S1 : Nat) : List UInt8 := lay (lay (lay X (a + 16) (nb U 8)) (a + 24) (nb P1 4)) (a + 28) (nb S1 2)
theorem stampL_len {X : List UInt8} {a U P1 S1 : Nat} (h : a + 30 ≤ X.length) : (stampL X a U P1 S1).length = X.length := by
  unfold stampL
  have e1 := lay_len (X := X) (b := nb U 8) (a := a + 16) (by rw [nb_len]; omega)
  have e2 := lay_len (X := lay X (a + 16) (nb U 8)) (b := nb P1 4) (a := a + 24) (by rw [nb_len, e1]; omega)
  rw [lay_len (by rw [nb_len, e2, e1]; omega), e2, e1]
theorem stamp_any (g : Nat) (t : TypeId) (X : List UInt8) (a m c U P1 S1 : Nat) (p s : Int) (w : World) (hb : BB w g t X) (hX : a + m ≤ X.length) (h30 : 30 ≤ m) (hc : m ≤ c) (hcm : c ≤ maxLen) (hU : U < 18446744073709551616) (hp : p + 1 = P1) (hs : s + 1 = S1) (hP : P1 ≤ 65536) (hS : S1 ≤ 65535) :
    Calls Try.prog 86 #[.slice (some ⟨g, a, none⟩) m c, .int .u64 U, .agg #[.int .i64 p, .int .i64 s]] w fun e w' => e = .returned (.tuple #[]) ∧ BB w' g t (stampL X a U P1 S1) ∧ Only g w w' := by
  have hgl : g < w.heap.size := Blk.lt hb
  have HB0 : Hid (BB (w.alloc (.cells #[.int .i64 p, .int .i64 s] 30)) g t X) := Lib.hid (Blk.alloc hb _)
  have HO0 : Hid (Only g w (w.alloc (.cells #[.int .i64 p, .int .i64 s] 30))) := Lib.hid (Only.of_below (bel_alloc _ _))
  have hb4 := at_new w #[.int .i64 p, .int .i64 s] 30
  have HC0 : Hid ((w.alloc (.cells #[.int .i64 p, .int .i64 s] 30)).cell? ⟨w.heap.size, 0, none⟩ = some (.int .i64 p)) := Lib.hid (by have h := hb4.2 0 (.int .i64 p) rfl; rwa [add_flat] at h)
  have HC1 : Hid ((w.alloc (.cells #[.int .i64 p, .int .i64 s] 30)).cell? ⟨w.heap.size, 1, none⟩ = some (.int .i64 s)) := Lib.hid (by have h := hb4.2 1 (.int .i64 s) rfl; rwa [add_flat] at h)
  clear hb4 hb
  have e1 := lay_len (X := X) (b := nb U 8) (a := a + 16) (by rw [nb_len]; omega)
  have e2 := lay_len (X := lay X (a + 16) (nb U 8)) (b := nb P1 4) (a := a + 24) (by rw [nb_len, e1]; omega)
  have HL1 := Lib.hid e1
  have HL2 : Hid ((lay (lay X (a + 16) (nb U 8)) (a + 24) (nb P1 4)).length = X.length) := Lib.hid (e2.trans e1)
  clear e1 e2
  have C1 := Lib.hid (write_any g t X (a + 16) 8 (c - 16) U _ HB0.out (by omega) (by omega) (by omega) (by omega) hU)
  unfold maxLen at hcm
  have k1 : (24 : Int) ≤ c := by omega
  have k2 : (28 : Int) ≤ c := by omega
  have k3 : (30 : Int) ≤ c := by omega
  have k4 : ¬ c = 16 := by omega
  have k5 : ¬ c = 24 := by omega
  have k6 : ¬ c = 28 := by omega
  have HX := Lib.hid hX
  have HM := Lib.hid (And.intro h30 hc)
  have w1 : IntKind.i64.wrap (p + 1) = P1 := by rw [IntKind.wrap_i64]; omega
  have w2 : IntKind.u64.wrap (P1 : Int) = P1 := by rw [IntKind.wrap_u64]; omega
  have w3 : IntKind.i64.wrap (s + 1) = S1 := by rw [IntKind.wrap_i64]; omega
  have w4 : IntKind.u64.wrap (S1 : Int) = S1 := by rw [IntKind.wrap_u64]; omega
  clear hX hp hs h30 hc
  go_enter Try.func86, Try.ntmps86
  go_wp2_with fail
  refine C1.out.mono ?_
  rintro e wa ⟨rfl, hba, hoa⟩
  have HBA := Lib.hid hba
  have HOA := Lib.hid (HO0.out.trans hoa)
  have c0 := hoa.cell (p := ⟨w.heap.size, 0, none⟩) (by rw [size_alloc]; show w.heap.size < _; omega) (by show w.heap.size ≠ g; omega) HC0.out
  have HC1a := Lib.hid (hoa.cell (p := ⟨w.heap.size, 1, none⟩) (by rw [size_alloc]; show w.heap.size < _; omega) (by show w.heap.size ≠ g; omega) HC1.out)
  have hsa : w.heap.size < wa.heap.size := Nat.lt_of_lt_of_le (by rw [size_alloc]; omega) hoa.size
  clear hba hoa
  go_wp2_with fail
  go_region_held3 (fun w' => w'.cell? ⟨w.heap.size, 0, none⟩ = some (.int .i64 p)) (first | go_keep | exact hob.cell (p := ⟨w.heap.size, 0, none⟩) hsa (by show w.heap.size ≠ g; omega) (by assumption))
    (first
      | (go_at_call 97; refine (write_any g t _ (a + 24) 4 (c - 24) P1 _ (BB.drew HBA.out) (by rw [HL1.out]; have := HX.out; have := HM.out; omega) (by omega) (by have := HM.out; omega) (by unfold maxLen; omega) (by omega)).mono ?_; rintro e wb ⟨rfl, hbb, hob⟩))
  have HBB := Lib.hid hbb
  have HOB := Lib.hid (HOA.out.drew.trans hob)
  have c1 := hob.cell (p := ⟨w.heap.size, 1, none⟩) hsa (by show w.heap.size ≠ g; omega) HC1a.out
  have hsb : w.heap.size < wb.heap.size := Nat.lt_of_lt_of_le hsa hob.size
  clear hbb hob c0
  go_wp2_with fail
  go_region_held3 (fun w' => w'.cell? ⟨w.heap.size, 1, none⟩ = some (.int .i64 s)) (first | go_keep | exact hoc.cell (p := ⟨w.heap.size, 1, none⟩) hsb (by show w.heap.size ≠ g; omega) (by assumption))
    (first
      | (go_at_call 97; refine (write_any g t _ (a + 28) 2 (c - 28) S1 _ (BB.drew HBB.out) (by rw [HL2.out]; have := HX.out; have := HM.out; omega) (by omega) (by have := HM.out; omega) (by unfold maxLen; omega) (by omega)).mono ?_; rintro e wc ⟨rfl, hbc, hoc⟩))
  have HBC := Lib.hid hbc
  have HOC := Lib.hid (HOB.out.drew.trans hoc)
  clear hbc hoc
  go_wp2_with fail
  exact bodyPost_end (v := .tuple #[]) (by simp [results, Try.results86, go_sem]) rfl ⟨rfl, HBC.out, HOC.out⟩
end Go.Proofs.Ytbpgjpopmohbmaa.Mem
