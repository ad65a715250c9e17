/- page.version. -/
import Derived.Test.YtbpgjpopmohbmaaPageS
import Derived.Laws.CopyOwn
import Derived.Laws.OwnMore
namespace Go.Proofs.Ytbpgjpopmohbmaa.Mem
open Go.RowKit Go.Proofs.Ytbpgjpopmohbmaa.Nums
set_option linter.unusedVariables false
set_option linter.unusedSimpArgs false
set_option maxRecDepth 100000
set_option maxHeartbeats 4000000
theorem info5 : (Try.prog.info? 5).map (fun i => (i.zero, i.size, i.bytes)) = some (some (.int .u8 0), 1, 1) := by kernel_rfl
theorem size5 : (Try.prog.info? 5).map (·.size) = some 1 := by kernel_rfl
theorem info_part {e : TypeId} {z : Value} {n b : Nat} (h : (Try.prog.info? e).map (fun i => (i.zero, i.size, i.bytes)) = some (some z, n, b)) : ∃ i, Try.prog.info? e = some i ∧ i.zero = some z ∧ i.size = n ∧ i.bytes = b := by
  cases hi : Try.prog.info? e with
  | none => rw [hi] at h; cases h
  | some i =>
    rw [hi] at h
    injection h with h
    injection h with h1 h
    injection h with h2 h3
    exact ⟨i, rfl, h1, h2, h3⟩
theorem make_u8 (m : Nat) (hm : m ≤ 1000) (w : World) : (Instr.makeSlice 31 (.int .i64 (m : Int)) (.int .i64 (m : Int))).run Try.prog w = .ok (.slice (some ⟨w.heap.size, 0, none⟩) m m) (w.alloc (.cells (u8s (List.replicate m 0)).toArray 5)) := by
  obtain ⟨i, hi, hz0, hz1, hz2⟩ := info_part info5
  have hr := run_make (P := Try.prog) w 31 5 i _ Try.underlying31 hi hz0 .i64 .i64 m m (by omega) (by omega) (by rw [hz2]; omega) (by omega)
  rw [hz1, Int.toNat_natCast] at hr
  have e : madeCells #[Value.int .u8 0] (m * 1) = (u8s (List.replicate m 0)).toArray := by
    apply Array.toList_inj.1
    rw [Nat.mul_one, toList_madeCells_one, List.toList_toArray]
    unfold u8s
    rw [List.map_replicate]
    rfl
  rw [← e]
  exact hr
theorem lay_mid {x y z b : List UInt8} {a : Nat} (hx : x.length = a) (hy : y.length = b.length) : lay (x ++ (y ++ z)) a b = x ++ (b ++ z) := by
  unfold lay
  rw [← hx, List.take_left, ← List.append_assoc x y z, List.drop_left' (by rw [List.length_append, hy]), List.append_assoc]
/-- a version's bytes -/
def verL (r a b P1 S1 : Nat) (d : List UInt8) : List UInt8 := nb r 8 ++ (nb a 8 ++ (nb b 8 ++ (nb P1 4 ++ (nb S1 2 ++ d))))
theorem verL_len (r a b P1 S1 : Nat) (d : List UInt8) : (verL r a b P1 S1 d).length = 30 + d.length := by
  unfold verL
  simp only [List.length_append, nb_len]
  omega
theorem rep_split (k m : Nat) : List.replicate (k + m) (0 : UInt8) = List.replicate k 0 ++ List.replicate m 0 := List.replicate_append_replicate.symm
theorem ver_eq (r a b P1 S1 : Nat) (d : List UInt8) (n : Nat) (hd : d.length = n) :
    lay (stampL (lay (lay (List.replicate (30 + n) 0) 0 (nb r 8)) 8 (nb a 8)) 0 b P1 S1) 30 d = verL r a b P1 S1 d := by
  have e1 : lay (List.replicate (30 + n) 0) 0 (nb r 8) = nb r 8 ++ List.replicate (22 + n) 0 := by
    rw [show 30 + n = 8 + (22 + n) by omega, rep_split]
    exact lay_mid (x := []) (y := List.replicate 8 0) rfl (by rw [nb_len, List.length_replicate])
  have e2 : lay (nb r 8 ++ List.replicate (22 + n) 0) 8 (nb a 8) = nb r 8 ++ (nb a 8 ++ List.replicate (14 + n) 0) := by
    rw [show 22 + n = 8 + (14 + n) by omega, rep_split]
    exact lay_mid (nb_len _ _) (by rw [nb_len, List.length_replicate])
  have e3 : lay (nb r 8 ++ (nb a 8 ++ List.replicate (14 + n) 0)) (0 + 16) (nb b 8) = nb r 8 ++ (nb a 8 ++ (nb b 8 ++ List.replicate (6 + n) 0)) := by
    rw [show 14 + n = 8 + (6 + n) by omega, rep_split, ← List.append_assoc, lay_mid (x := nb r 8 ++ nb a 8) (by rw [List.length_append, nb_len, nb_len]) (by rw [nb_len, List.length_replicate]), List.append_assoc]
  have e4 : lay (nb r 8 ++ (nb a 8 ++ (nb b 8 ++ List.replicate (6 + n) 0))) (0 + 24) (nb P1 4) = nb r 8 ++ (nb a 8 ++ (nb b 8 ++ (nb P1 4 ++ List.replicate (2 + n) 0))) := by
    rw [show 6 + n = 4 + (2 + n) by omega, rep_split, ← List.append_assoc, ← List.append_assoc, lay_mid (x := nb r 8 ++ nb a 8 ++ nb b 8) (by simp only [List.length_append, nb_len]) (by rw [nb_len, List.length_replicate]), List.append_assoc, List.append_assoc]
  have e5 : lay (nb r 8 ++ (nb a 8 ++ (nb b 8 ++ (nb P1 4 ++ List.replicate (2 + n) 0)))) (0 + 28) (nb S1 2) = nb r 8 ++ (nb a 8 ++ (nb b 8 ++ (nb P1 4 ++ (nb S1 2 ++ List.replicate n 0)))) := by
    rw [rep_split, ← List.append_assoc, ← List.append_assoc, ← List.append_assoc, lay_mid (x := nb r 8 ++ nb a 8 ++ nb b 8 ++ nb P1 4) (by simp only [List.length_append, nb_len]) (by rw [nb_len, List.length_replicate]), List.append_assoc, List.append_assoc, List.append_assoc]
  have e6 : lay (nb r 8 ++ (nb a 8 ++ (nb b 8 ++ (nb P1 4 ++ (nb S1 2 ++ List.replicate n 0))))) 30 d = verL r a b P1 S1 d := by
    unfold verL
    have h := lay_mid (x := nb r 8 ++ nb a 8 ++ nb b 8 ++ nb P1 4 ++ nb S1 2) (y := List.replicate n 0) (z := []) (b := d) (a := 30) (by simp only [List.length_append, nb_len]) (by rw [List.length_replicate, hd])
    simp only [List.append_assoc, List.append_nil] at h ⊢
    exact h
  unfold stampL
  rw [e1, e2, e3, e4, e5, e6]
theorem lay_splice (X d : List UInt8) (a : Nat) : u8s (lay X a d) = splice (u8s X) a (u8s d) := by
  unfold lay splice u8s
  simp [List.map_take, List.map_drop]
theorem version_any (r a b P1 S1 n c : Nat) (p s : Int) (A : Option Addr) (d : List UInt8) (w : World) (hd : d.length = n) (hn : n ≤ 900) (hs : Sl w w.heap.size 1 A n c (u8s d)) (hr : r < 18446744073709551616) (ha : a < 18446744073709551616) (hb : b < 18446744073709551616) (hp : p + 1 = P1) (hs1 : s + 1 = S1) (hP : P1 ≤ 65536) (hS : S1 ≤ 65535) :
    Calls Try.prog 78 #[.agg #[.int .u64 r, .int .u64 a, .int .u64 b, .int .i64 p, .int .i64 s, .slice A n c]] w fun e w' => e = .returned (.slice (some ⟨w.heap.size + 1, 0, none⟩) (30 + n) (30 + n)) ∧ BB w' (w.heap.size + 1) 5 (verL r a b P1 S1 d) ∧ Below w.heap.size w w' := by
  obtain ⟨wx, hwx⟩ : ∃ wx, w.alloc (.cells #[.int .u64 r, .int .u64 a, .int .u64 b, .int .i64 p, .int .i64 s, .slice A n c] 33) = wx := ⟨_, rfl⟩
  have HWX := Lib.hid hwx
  have hb4 := at_new w #[.int .u64 r, .int .u64 a, .int .u64 b, .int .i64 p, .int .i64 s, .slice A n c] 33
  rw [hwx] at hb4
  have g0 := hb4.2 0 (.int .u64 r) rfl
  have g1 := hb4.2 1 (.int .u64 a) rfl
  have g2 := hb4.2 2 (.int .u64 b) rfl
  have g3 := hb4.2 3 (.int .i64 p) rfl
  have g4 := hb4.2 4 (.int .i64 s) rfl
  have g5 := hb4.2 5 (.slice A n c) rfl
  rw [add_flat] at g0 g1 g2 g3 g4 g5
  have hsz : wx.heap.size = w.heap.size + 1 := by rw [← hwx, size_alloc]
  have hbx : Below w.heap.size w wx := by rw [← hwx]; exact bel_alloc _ _
  have HSW := Lib.hid hs
  have hmk := make_u8 (30 + n) (by omega)
  obtain ⟨bx, hbxx⟩ : ∃ bx, w.heap.size = bx := ⟨_, rfl⟩
  obtain ⟨V, hV⟩ : ∃ V, wx.heap.size = V := ⟨_, rfl⟩
  have hVb : V = bx + 1 := by omega
  have HVb := Lib.hid hVb
  obtain ⟨wv, hwv⟩ : ∃ wv, wx.alloc (.cells (u8s (List.replicate (30 + n) 0)).toArray 5) = wv := ⟨_, rfl⟩
  have hvs : wv.heap.size = bx + 2 := by rw [← hwv, size_alloc]; omega
  have HY : True := trivial
  have HY0 : Hid (BB wv V 5 (List.replicate (30 + n) 0)) := Lib.hid (by rw [← hwv, ← hV]; exact Blk.new _ _ _)
  have hbv : Below wx.heap.size wx wv := by rw [← hwv]; exact bel_alloc _ _
  have HBV : Hid (Below w.heap.size w wv) := Lib.hid (bel_trans hbx hbv)
  have hlt : bx < wx.heap.size := by omega
  rw [hbxx] at g0 g1 g2 g3 g4 g5
  have G0 := Lib.hid ((hbv.cell (p := ⟨bx, 0, none⟩) hlt).trans g0)
  have G1 := Lib.hid ((hbv.cell (p := ⟨bx, 1, none⟩) hlt).trans g1)
  have G2 := Lib.hid ((hbv.cell (p := ⟨bx, 2, none⟩) hlt).trans g2)
  have G3 := Lib.hid ((hbv.cell (p := ⟨bx, 3, none⟩) hlt).trans g3)
  have G4 := Lib.hid ((hbv.cell (p := ⟨bx, 4, none⟩) hlt).trans g4)
  have G5 := Lib.hid ((hbv.cell (p := ⟨bx, 5, none⟩) hlt).trans g5)
  have hn1 : (n : Int) ≤ 900 := by omega
  push_cast at hmk
  have HWV := Lib.hid hwv
  have HBX := Lib.hid hbxx
  have HD := Lib.hid hd
  clear hb4 g0 g1 g2 g3 g4 g5 hs hwx hwv hbv hbx hd
  go_enter Try.func78, Try.ntmps78
  go_wp2_with fail
  rw [HWX.out, HWV.out]
  have HBB0 : Hid (Below bx w wv) := Lib.hid (by rw [← HBX.out]; exact HBV.out)
  have HSV : Hid (Sl wv bx 1 A n c (u8s d)) := Lib.hid (by rw [← HBX.out]; exact HSW.out.below HBV.out)
  rw [hVb] at HY0
  have HLN0 : Hid ((List.replicate (30 + n) (0 : UInt8)).length = 30 + n) := Lib.hid List.length_replicate
  obtain ⟨Y0, hY0⟩ : ∃ Y0, List.replicate (30 + n) (0 : UInt8) = Y0 := ⟨_, rfl⟩
  have HYE := Lib.hid hY0
  rw [hY0] at HY0 HLN0
  have e1 := lay_len (X := Y0) (b := nb r 8) (a := 0) (by rw [nb_len, HLN0.out]; omega)
  have e2 := lay_len (X := lay Y0 0 (nb r 8)) (b := nb a 8) (a := 8) (by rw [nb_len, e1, HLN0.out]; omega)
  have e3 := stampL_len (X := lay (lay Y0 0 (nb r 8)) 8 (nb a 8)) (a := 0) (U := b) (P1 := P1) (S1 := S1) (by rw [e2, e1, HLN0.out]; omega)
  have HL1 := Lib.hid (e1.trans HLN0.out)
  have HL2 := Lib.hid (e2.trans HL1.out)
  have HL3 := Lib.hid (e3.trans HL2.out)
  have HN := Lib.hid hn
  clear e1 e2 e3 hY0 HY
  have k1 : (8 : Int) ≤ 30 + n := by omega
  have k2 : (16 : Int) ≤ 30 + n := by omega
  have k3 : (30 : Int) ≤ 30 + n := by omega
  have k4 : ¬ 30 + n = 8 := by omega
  have k5 : ¬ 30 + n = 0 := by omega
  have c0 := G0.out
  go_region_held3 (fun w' => w'.cell? ⟨bx, 0, none⟩ = some (.int .u64 r)) (first | go_keep | exact hoa.cell (p := ⟨bx, 0, none⟩) (by show bx < wv.heap.size; omega) (by show bx ≠ bx + 1; omega) (by assumption))
    (first
      | (go_at_call 97; refine (write_any (bx + 1) 5 _ 0 8 (30 + n) r _ (BB.drew HY0.out) (by rw [HLN0.out]; omega) (by omega) (by omega) (by unfold maxLen; have := HN.out; omega) hr).mono ?_; rintro e wa ⟨rfl, hba, hoa⟩))
  have HA := Lib.hid hba
  have HOA : Hid (Only (bx + 1) wv wa) := Lib.hid ((Only.refl _ _).drew.trans hoa)
  have hsa : wv.heap.size ≤ wa.heap.size := hoa.size
  have c1 := HOA.out.cell (p := ⟨bx, 1, none⟩) (by show bx < wv.heap.size; omega) (by show bx ≠ bx + 1; omega) G1.out
  clear hba hoa c0
  go_wp2_with fail
  go_region_held3 (fun w' => w'.cell? ⟨bx, 1, none⟩ = some (.int .u64 a)) (first | go_keep | exact hob.cell (p := ⟨bx, 1, none⟩) (by show bx < wa.heap.size; omega) (by show bx ≠ bx + 1; omega) (by assumption))
    (first
      | (go_at_call 97; refine (write_any (bx + 1) 5 _ 8 8 (30 + n - 8) a _ (BB.drew HA.out) (by rw [HL1.out]; omega) (by omega) (by omega) (by unfold maxLen; have := HN.out; omega) ha).mono ?_; rintro e wb ⟨rfl, hbb, hob⟩))
  have HB := Lib.hid hbb
  have HOB : Hid (Only (bx + 1) wv wb) := Lib.hid (HOA.out.drew.trans hob)
  have hsb : wa.heap.size ≤ wb.heap.size := hob.size
  have c2 := HOB.out.cell (p := ⟨bx, 2, none⟩) (by show bx < wv.heap.size; omega) (by show bx ≠ bx + 1; omega) G2.out
  have c3 := HOB.out.cell (p := ⟨bx, 3, none⟩) (by show bx < wv.heap.size; omega) (by show bx ≠ bx + 1; omega) G3.out
  have c4 := HOB.out.cell (p := ⟨bx, 4, none⟩) (by show bx < wv.heap.size; omega) (by show bx ≠ bx + 1; omega) G4.out
  clear hbb hob c1
  go_wp2_with fail
  refine (stamp_any (bx + 1) 5 _ 0 (30 + n) (30 + n) b P1 S1 p s _ HB.out (by rw [HL2.out]; omega) (by omega) (by omega) (by unfold maxLen; have := HN.out; omega) hb hp hs1 hP hS).mono ?_
  rintro e wc ⟨rfl, hbc, hoc⟩
  have HC := Lib.hid hbc
  have HOC : Hid (Only (bx + 1) wv wc) := Lib.hid (HOB.out.trans hoc)
  have hsc : wb.heap.size ≤ wc.heap.size := hoc.size
  have c5 := HOC.out.cell (p := ⟨bx, 5, none⟩) (by show bx < wv.heap.size; omega) (by show bx ≠ bx + 1; omega) G5.out
  have HBC : Hid (Below bx w wc) := Lib.hid (HBB0.out.trans (HOC.out.below (by omega) (by omega)))
  have HSC := Lib.hid (HSV.out.below (HOC.out.below (by omega) (by omega)))
  clear hbc hoc c2 c3 c4
  go_wp2_with fail
  have hfin : ∀ we, Hid (we.heap[bx + 1]? = some (.cells (splice (u8s (stampL (lay (lay Y0 0 (nb r 8)) 8 (nb a 8)) 0 b P1 S1)) 30 (u8s d)).toArray 5 (0, 0))) → BB we (bx + 1) 5 (verL r a b P1 S1 d) := by
    intro we h
    have h := h.out
    rw [← lay_splice, ← HYE.out, ver_eq r a b P1 S1 d n HD.out] at h
    exact h
  have HFIN := Lib.hid hfin
  clear hfin
  have HLD : Hid ((u8s d).length = n) := Lib.hid (by rw [u8s_len]; exact HD.out)
  have HLC : Hid ((u8s (stampL (lay (lay Y0 0 (nb r 8)) 8 (nb a 8)) 0 b P1 S1)).length = 30 + n) := Lib.hid (by rw [u8s_len]; exact HL3.out)
  by_cases hn0 : n = 0
  · subst hn0
    have k6 : (30 : Int) ≤ 30 := Int.le_refl _
    go_region_held3 (fun w' => w'.cell? ⟨bx, 5, none⟩ = some (.slice A 0 c)) (first | go_keep | exact (hbe2.cell (p := ⟨bx, 5, none⟩) (by show bx < bx + 1; omega)).trans (by assumption))
      (first
        | (refine step_copy_splice (by rfl) _ _ _ _ (by rfl) 5 Try.underlying31 size5 _ _ _ _ _ _ (by rfl) (by rfl) (bx + 1) 30 (u8s (stampL (lay (lay Y0 0 (nb r 8)) 8 (nb a 8)) 0 b P1 S1)) 5 HC.out (u8s d) (by rw [HLD.out]; rfl) (fun h => by rw [HLD.out] at h; omega) (by rw [HLD.out, HLC.out]; omega) (u8s_one _) (bx + 1) wc ((Below.refl (bx + 1) wc).drew) (Nat.le_refl _) ?_; intro we hge hbe2))
    have HE := Lib.hid (HFIN.out we hge)
    have HBE : Hid (Below bx w we) := Lib.hid (HBC.out.trans (hbe2.mono (by omega)))
    clear hge hbe2
    go_wp2_with fail
    go_ret
    exact ⟨by rw [HBX.out] <;> rfl, by rw [HBX.out]; exact HE.out, by rw [HBX.out]; exact HBE.out⟩
  · obtain ⟨ad, hA, hAt⟩ := HSC.out.at_ (by omega)
    subst hA
    have HAT := Lib.hid hAt
    clear hAt
    have k6 : ¬ 30 + n = 30 := by omega
    go_region_held3 (fun w' => w'.cell? ⟨bx, 5, none⟩ = some (.slice (some ad) n c)) (first | go_keep | exact (hbe2.cell (p := ⟨bx, 5, none⟩) (by show bx < bx + 1; omega)).trans (by assumption))
      (first
        | (refine step_copy_splice (by rfl) _ _ _ _ (by rfl) 5 Try.underlying31 size5 _ _ _ _ _ _ (by rfl) (by rfl) (bx + 1) 30 (u8s (stampL (lay (lay Y0 0 (nb r 8)) 8 (nb a 8)) 0 b P1 S1)) 5 HC.out (u8s d) (by rw [HLD.out]; simp) (fun h => ⟨by rfl, ad, by rfl, HAT.out.2⟩) (by rw [HLD.out, HLC.out]; omega) (u8s_one _) (bx + 1) wc ((Below.refl (bx + 1) wc).drew) (Nat.le_refl _) ?_; intro we hge hbe2))
    have HE := Lib.hid (HFIN.out we hge)
    have HBE : Hid (Below bx w we) := Lib.hid (HBC.out.trans (hbe2.mono (by omega)))
    clear hge hbe2
    go_wp2_with fail
    go_ret
    exact ⟨by rw [HBX.out] <;> rfl, by rw [HBX.out]; exact HE.out, by rw [HBX.out]; exact HBE.out⟩
end Go.Proofs.Ytbpgjpopmohbmaa.Mem
