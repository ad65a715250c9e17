/- Page.Get, Page.Stamp. -/
import Derived.Test.YtbpgjpopmohbmaaPageT
namespace Go.Proofs.Ytbpgjpopmohbmaa.Mem
open Go.RowKit Go.Proofs.Ytbpgjpopmohbmaa.Nums
set_option linter.unusedVariables false
set_option linter.unusedSimpArgs false
set_option maxRecDepth 100000
set_option maxHeartbeats 1000000
attribute [local go_sem] nil_nil some_nil
/-- the version whose bytes lie at f, its data's slice v -/
def tuV (X : List UInt8) (f : Nat) (v : Value) : Value := .agg #[.int .u64 (getN X f 8 : Nat), .int .u64 (getN X (f + 8) 8 : Nat), .int .u64 (getN X (f + 16) 8 : Nat), .int .i64 ((getN X (f + 24) 4 : Nat) - 1), .int .i64 ((getN X (f + 28) 2 : Nat) - 1), v]
/-- six cells of a block written over -/
def put6 (w : World) (b : Nat) (v0 v1 v2 v3 v4 v5 : Value) : World := (((((w.setCell ⟨b, 0, none⟩ v0).setCell ⟨b, 1, none⟩ v1).setCell ⟨b, 2, none⟩ v2).setCell ⟨b, 3, none⟩ v3).setCell ⟨b, 4, none⟩ v4).setCell ⟨b, 5, none⟩ v5
theorem Blk.put6 {w : World} {b : Nat} {t : TypeId} {a0 a1 a2 a3 a4 a5 : Value} (h : Blk w b t #[a0, a1, a2, a3, a4, a5]) (v0 v1 v2 v3 v4 v5 : Value) : Blk (put6 w b v0 v1 v2 v3 v4 v5) b t #[v0, v1, v2, v3, v4, v5] :=
  Blk.set_ (Blk.set_ (Blk.set_ (Blk.set_ (Blk.set_ (Blk.set_ h 0 v0) 1 v1) 2 v2) 3 v3) 4 v4) 5 v5
theorem Below.put6 {B b : Nat} {w w1 : World} (h : Below B w w1) (hb : B ≤ b) (v0 v1 v2 v3 v4 v5 : Value) : Below B w (put6 w1 b v0 v1 v2 v3 v4 v5) :=
  (((((h.setCell (p := ⟨b, 0, none⟩) hb v0).setCell (p := ⟨b, 1, none⟩) hb v1).setCell (p := ⟨b, 2, none⟩) hb v2).setCell (p := ⟨b, 3, none⟩) hb v3).setCell (p := ⟨b, 4, none⟩) hb v4).setCell (p := ⟨b, 5, none⟩) hb v5
theorem put6_other (w : World) (b : Nat) (v0 v1 v2 v3 v4 v5 : Value) (k : Nat) (hk : k ≠ b) : (put6 w b v0 v1 v2 v3 v4 v5).heap[k]? = w.heap[k]? := by
  unfold put6
  rw [Below.heap_setCell _ _ _ _ hk, Below.heap_setCell _ _ _ _ hk, Below.heap_setCell _ _ _ _ hk, Below.heap_setCell _ _ _ _ hk, Below.heap_setCell _ _ _ _ hk, Below.heap_setCell _ _ _ _ hk]
theorem get_ret {w : World} {b : Nat} {v0 v1 v2 v3 v4 v5 q : Value} {tmps : Array Value} (h : Blk w b 33 #[v0, v1, v2, v3, v4, v5]) (h4 : tmps.getD 4 undef = .pointer (some ⟨b, 0, none⟩)) (h5 : tmps.getD 5 undef = q) :
    (results Try.f26 tmps).run Try.prog w = .ok (.tuple #[.agg #[v0, v1, v2, v3, v4, v5], q]) w := by
  have r0 := h.cell 0
  have r1 := h.cell 1
  have r2 := h.cell 2
  have r3 := h.cell 3
  have r4 := h.cell 4
  have r5 := h.cell 5
  simp at r0 r1 r2 r3 r4 r5
  simp only [Array.getD_eq_getD_getElem?] at h4 h5
  simp [results, Try.results26, go_sem, h4, h5, r0, r1, r2, r3, r4, r5]
theorem get_some (P s f z : Nat) (X : List UInt8) (w : World) (hp : Pg w P X) (hF : Fine X) (h1 : s < slN X) (hf : frS X s = f) (hz : szS X s = z) (h0 : 30 ≤ z) :
    Calls Try.prog 26 #[.pointer (some ⟨P, 0, none⟩), .int .i64 s] w fun e w' => ∃ v, e = .returned (.tuple #[tuV X f v, .bool true]) ∧ OwnB w' w.heap.size v (z - 30) (u8s ((X.drop (f + 30)).take (z - 30))) ∧ Below w.heap.size w w' := by
  have HP1 : Hid (Pg (w.alloc (.cells #[.int .u64 0, .int .u64 0, .int .u64 0, .int .i64 0, .int .i64 0, .slice none 0 0] 33)) P X) := Lib.hid ⟨Blk.alloc hp.1 _, hp.2⟩
  have CA := Lib.hid (at_pg P s X _ HP1.out hF h1)
  rw [atV_some (by omega), hf, hz] at CA
  have hfit := hF.fit s h1
  rw [hf, hz] at hfit
  have HT0 : Hid (Blk (w.alloc (.cells #[.int .u64 0, .int .u64 0, .int .u64 0, .int .i64 0, .int .i64 0, .slice none 0 0] 33)) w.heap.size 33 #[.int .u64 0, .int .u64 0, .int .u64 0, .int .i64 0, .int .i64 0, .slice none 0 0]) := Lib.hid (Blk.new w _ _)
  have HBE0 : Hid (Below w.heap.size w (w.alloc (.cells #[.int .u64 0, .int .u64 0, .int .u64 0, .int .i64 0, .int .i64 0, .slice none 0 0] 33))) := Lib.hid (bel_alloc _ _)
  have hsx := size_alloc w (.cells #[.int .u64 0, .int .u64 0, .int .u64 0, .int .i64 0, .int .i64 0, .slice none 0 0] 33)
  have hXl := hp.2
  clear hp hF hf hz
  go_enter Try.func26, Try.ntmps26
  go_wp2_with fail
  refine CA.out.mono ?_
  rintro e w2 ⟨rfl, m, rfl⟩
  go_wp2_with fail
  refine (tuple_any P f z (512 - f) 113 X _ (HP1.out.drewN m).1 (by omega) h0 (by omega) (by omega) (by omega)).mono ?_
  rintro e w3 ⟨v, rfl, hown, hb3⟩
  obtain ⟨Av, cv, hv, hsv⟩ := Sl.of_own hown
  subst hv
  have hb3' : Below (w.heap.size + 1) ((w.alloc (.cells #[.int .u64 0, .int .u64 0, .int .u64 0, .int .i64 0, .int .i64 0, .slice none 0 0] 33)).drewN m) w3 := hb3.mono (Nat.le_of_eq hsx.symm)
  have HT1 := Lib.hid (Blk.below (w := (w.alloc (.cells #[.int .u64 0, .int .u64 0, .int .u64 0, .int .i64 0, .int .i64 0, .slice none 0 0] 33)).drewN m) HT0.out hb3' (by omega))
  have HOWN : Hid (w3.ownsRow (w.heap.size + 1) 5 1 (.slice Av (z - 30) cv) (z - 30) (u8s ((X.drop (f + 30)).take (z - 30)))) := Lib.hid (own_mono hown (Nat.le_of_eq hsx.symm))
  have hdn : Below w.heap.size w ((w.alloc (.cells #[.int .u64 0, .int .u64 0, .int .u64 0, .int .i64 0, .int .i64 0, .slice none 0 0] 33)).drewN m) := ⟨HBE0.out.os, HBE0.out.tape, HBE0.out.output, HBE0.out.size, HBE0.out.block⟩
  have HB3 := Lib.hid (hdn.trans (hb3'.mono (by omega)))
  have q0 := HT1.out.cell 0
  have q1 := HT1.out.cell 1
  have q2 := HT1.out.cell 2
  have q3 := HT1.out.cell 3
  have q4 := HT1.out.cell 4
  have q5 := HT1.out.cell 5
  have p0 := HT1.out.frozen 0
  have p1 := HT1.out.frozen 1
  have p2 := HT1.out.frozen 2
  have p3 := HT1.out.frozen 3
  have p4 := HT1.out.frozen 4
  have p5 := HT1.out.frozen 5
  clear hown hb3 hb3' hsv hdn CA HP1 HT0 HBE0
  go_wp2_with fail
  have HF := Lib.hid (Blk.put6 HT1.out (.int .u64 (getN X f 8 : Nat)) (.int .u64 (getN X (f + 8) 8 : Nat)) (.int .u64 (getN X (f + 16) 8 : Nat)) (.int .i64 ((getN X (f + 24) 4 : Nat) - 1)) (.int .i64 ((getN X (f + 28) 2 : Nat) - 1)) (.slice Av (z - 30) cv))
  exact bodyPost_ret (get_ret HF.out rfl rfl) rfl ⟨_, rfl, own_keep (own_mono HOWN.out (by omega)) (fun k hk => put6_other _ _ _ _ _ _ _ _ _ (by have := (HOWN.out.lt k hk).1; omega)), Below.put6 HB3.out (Nat.le_refl _) _ _ _ _ _ _⟩
theorem nx_nat {p s : Int} (h : nxOk p s = true) : ∃ P1 S1 : Nat, p + 1 = P1 ∧ s + 1 = S1 ∧ P1 ≤ 65536 ∧ S1 ≤ 65535 := by
  unfold nxOk at h
  rw [Bool.or_eq_true, Bool.and_eq_true, Bool.and_eq_true, Bool.and_eq_true, Bool.and_eq_true, beq_iff_eq, beq_iff_eq, decide_eq_true_eq, decide_eq_true_eq, decide_eq_true_eq, decide_eq_true_eq] at h
  exact ⟨(p + 1).toNat, (s + 1).toNat, by omega, by omega, by omega, by omega⟩
theorem stamp_form (A : Option Addr) (i : Int) (U : Nat) (p s : Int) (w : World) (b : Nat) (hA : A = some ⟨b, 0, none⟩) (hbad : ¬ (U ≤ 1099511627776 ∧ nxOk p s = true)) :
    Calls Try.prog 38 #[.pointer A, .int .i64 i, .int .u64 U, .agg #[.int .i64 p, .int .i64 s]] w fun e w' => e = .returned (.int .i64 3) ∧ Below w.heap.size w w' := by
  subst hA
  by_cases h1 : U ≤ 1099511627776
  · have hq : nxOk p s = false := by
      cases h : nxOk p s
      · rfl
      · exact absurd ⟨h1, h⟩ hbad
    have CX := Lib.hid (rightNext_any p s (w.alloc (.cells #[.int .i64 p, .int .i64 s] 30)))
    rw [hq] at CX
    clear hq hbad
    go_enter Try.func38, Try.ntmps38
    go_wp2_with fail
    refine (rightNumber_yes U _ h1).mono ?_
    rintro e w1 ⟨rfl, rfl⟩
    go_wp2_with fail
    refine CX.out.mono ?_
    rintro e w2 ⟨rfl, hb2⟩
    have HB2 := Lib.hid (bel_trans (bel_alloc _ _) hb2)
    clear hb2
    go_wp2_with fail
    go_ret
    exact ⟨rfl, HB2.out⟩
  · clear hbad
    go_enter Try.func38, Try.ntmps38
    go_wp2_with fail
    refine (rightNumber_no U _ h1).mono ?_
    rintro e w1 ⟨rfl, rfl⟩
    go_wp2_with fail
    go_ret
    exact ⟨rfl, bel_alloc _ _⟩
theorem stamp_ok (P s0 f z U P1 S1 : Nat) (p s : Int) (X : List UInt8) (w : World) (hp : Pg w P X) (hF : Fine X) (h1 : s0 < slN X) (hf : frS X s0 = f) (hz : szS X s0 = z) (h0 : 30 ≤ z) (hU : U ≤ 1099511627776) (hn : nxOk p s = true) (hp1 : p + 1 = P1) (hs1 : s + 1 = S1) (hP : P1 ≤ 65536) (hS : S1 ≤ 65535) :
    Calls Try.prog 38 #[.pointer (some ⟨P, 0, none⟩), .int .i64 s0, .int .u64 U, .agg #[.int .i64 p, .int .i64 s]] w fun e w' => e = .returned (.int .i64 0) ∧ Pg w' P (stampL X f U P1 S1) ∧ Only P w w' := by
  have hfit := hF.fit s0 h1
  rw [hf, hz] at hfit
  have hXl := hp.2
  have HP := Lib.hid hp
  have HF := Lib.hid hF
  have CX := Lib.hid (rightNext_any p s (w.alloc (.cells #[.int .i64 p, .int .i64 s] 30)))
  rw [hn] at CX
  have hb4 := at_new w #[.int .i64 p, .int .i64 s] 30
  have HC0 : Hid ((w.alloc (.cells #[.int .i64 p, .int .i64 s] 30)).cell? ⟨w.heap.size, 0, none⟩ = some (.int .i64 p)) := Lib.hid (by have h := hb4.2 0 (.int .i64 p) rfl; rwa [add_flat] at h)
  have HC1 : Hid ((w.alloc (.cells #[.int .i64 p, .int .i64 s] 30)).cell? ⟨w.heap.size, 1, none⟩ = some (.int .i64 s)) := Lib.hid (by have h := hb4.2 1 (.int .i64 s) rfl; rwa [add_flat] at h)
  have hsx := size_alloc w (.cells #[.int .i64 p, .int .i64 s] 30)
  have HH := Lib.hid (And.intro h1 (And.intro hf hz))
  clear hp hF hn hb4 h1 hf hz
  go_enter Try.func38, Try.ntmps38
  go_wp2_with fail
  refine (rightNumber_yes U _ hU).mono ?_
  rintro e w1 ⟨rfl, rfl⟩
  go_wp2_with fail
  refine CX.out.mono ?_
  rintro e w2 ⟨rfl, hb2⟩
  have HB2 := Lib.hid (bel_trans (bel_alloc w (.cells #[.int .i64 p, .int .i64 s] 30)) hb2)
  have HP2 : Hid (Pg w2 P X) := Lib.hid ⟨Blk.below HP.out.1 HB2.out (Blk.lt HP.out.1), HP.out.2⟩
  have c0 := (hb2.cell (p := ⟨w.heap.size, 0, none⟩) (by show w.heap.size < _; omega)).trans HC0.out
  have c1 := (hb2.cell (p := ⟨w.heap.size, 1, none⟩) (by show w.heap.size < _; omega)).trans HC1.out
  have CA := Lib.hid (at_pg P s0 X w2 HP2.out HF.out HH.out.1)
  rw [atV_some (by have := HH.out.2.2; omega), HH.out.2.1, HH.out.2.2] at CA
  clear hb2
  go_wp2_with fail
  refine CA.out.mono ?_
  rintro e w3 ⟨rfl, m, rfl⟩
  have c0' : (w2.drewN m).cell? ⟨w.heap.size, 0, none⟩ = some (.int .i64 p) := c0
  have c1' : (w2.drewN m).cell? ⟨w.heap.size, 1, none⟩ = some (.int .i64 s) := c1
  go_wp2_with fail
  refine (stamp_any P 113 X f z (512 - f) U P1 S1 p s _ (HP2.out.drewN m).1 (by omega) h0 (by omega) (by unfold maxLen; omega) (by omega) hp1 hs1 hP hS).mono ?_
  rintro e w4 ⟨rfl, hb4, ho4⟩
  have HP4 : Hid (Pg w4 P (stampL X f U P1 S1)) := Lib.hid ⟨hb4, by rw [stampL_len (by omega)]; exact hXl⟩
  have h24 : Only P w2 (w2.drewN m) := ⟨rfl, rfl, rfl, Nat.le_refl _, fun _ _ _ => rfl⟩
  have HO4 := Lib.hid (((Only.of_below HB2.out).trans h24).trans ho4)
  clear hb4 ho4 h24
  go_wp2_with fail
  go_ret
  exact ⟨rfl, HP4.out, HO4.out⟩
end Go.Proofs.Ytbpgjpopmohbmaa.Mem
