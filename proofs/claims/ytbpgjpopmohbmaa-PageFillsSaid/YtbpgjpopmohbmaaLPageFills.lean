/- PageFills: its walk. -/
import Derived.Test.YtbpgjpopmohbmaaFillA
import Derived.Test.YtbpgjpopmohbmaaPageK
import Derived.Test.YtbpgjpopmohbmaaOpenB
import Derived.Deep.CutRange
namespace Go.Proofs.Ytbpgjpopmohbmaa.Mem
open Go.RowKit Go.Proofs.Ytbpgjpopmohbmaa.Nums
set_option linter.unusedVariables false
set_option linter.unusedSimpArgs false
set_option maxRecDepth 100000
set_option maxHeartbeats 8000000
/-- the version of so many noughts -/
def v0 (k : Nat) : Ver := ⟨1, 1, 0, 0, 0, List.replicate k 0⟩
theorem v0_len (k : Nat) : (v0 k).d.length = k := List.length_replicate
theorem v0_ok {k : Nat} (h : k ≤ 200) : (v0 k).ok := ⟨by show 1 ≤ _; omega, by show 1 ≤ _; omega, by show 0 ≤ _; omega, by show 0 ≤ _; omega, by show 0 ≤ _; omega, by show 0 = 0 ↔ 0 = 0; omega, by rw [v0_len]; exact h⟩
theorem v0_tup (k : Nat) (u : Value) : tupV (v0 k) u = .agg #[.int .u64 1, .int .u64 1, .int .u64 0, .int .i64 (-1), .int .i64 (-1), u] := rfl
theorem nowhere_eq (w : World) : Calls Try.prog 33 #[] w fun e w' => e = .returned (.agg #[.int .i64 (-1), .int .i64 (-1)]) ∧ w' = w.alloc (.cells #[.int .i64 (-1), .int .i64 (-1)] 30) := by
  go_enter Try.func33, Try.ntmps33
  go_wp2_with fail
  exact bodyPost_ret (v := .agg #[.int .i64 (-1), .int .i64 (-1)]) (by simp [results, Try.results33, go_sem]) rfl ⟨rfl, by first | rfl | (trace_state; fail)⟩
theorem b3a (w : World) (cs : Array Value) (t : TypeId) (o o' : Obj) : Blk (((w.alloc (.cells cs t)).alloc o).alloc o') w.heap.size t cs := Blk.alloc (Blk.alloc (Blk.new w t cs) o) o'
theorem b3b (w : World) (cs : Array Value) (t : TypeId) (o o' : Obj) : Blk (((w.alloc o).alloc (.cells cs t)).alloc o') (w.heap.size + 1) t cs := by
  have := Blk.alloc (Blk.new (w.alloc o) t cs) o'
  rwa [size_alloc] at this
theorem b3c (w : World) (cs : Array Value) (t : TypeId) (o o' : Obj) : Blk (((w.alloc o).alloc o').alloc (.cells cs t)) (w.heap.size + 2) t cs := by
  have := Blk.new ((w.alloc o).alloc o') t cs
  rwa [size_alloc, size_alloc] at this
theorem bel3 (w : World) (a b c : Obj) : Below w.heap.size w (((w.alloc a).alloc b).alloc c) := bel_trans (bel_trans (bel_alloc _ _) (bel_alloc _ _)) (bel_alloc _ _)
/-- a version in its box, its Data's block -/
def Boxed (w : World) (B k T D : Nat) : Prop := (B ≤ T ∧ B ≤ D ∧ k ≤ 200) ∧ True ∧ Blk w T 33 #[.int .u64 1, .int .u64 1, .int .u64 0, .int .i64 (-1), .int .i64 (-1), .slice (some ⟨D, 0, none⟩) k k] ∧ BB w D 5 (List.replicate k 0)
theorem Boxed.keep {w w' : World} {B k T D : Nat} (h : Boxed w B k T D) (h1 : w'.heap[T]? = w.heap[T]?) (h2 : w'.heap[D]? = w.heap[D]?) : Boxed w' B k T D := ⟨h.1, h.2.1, h1.trans h.2.2.1, h2.trans h.2.2.2⟩
theorem Boxed.below {w w' : World} {B k T D : Nat} (h : Boxed w B k T D) (hb : Below w.heap.size w w') : Boxed w' B k T D := h.keep (hb.block T (Blk.lt h.2.2.1)) (hb.block D (Blk.lt h.2.2.2))
theorem Boxed.sl {w : World} {B k T D : Nat} (h : Boxed w B k T D) : Sl w w.heap.size 1 (some ⟨D, 0, none⟩) (v0 k).d.length k (u8s (v0 k).d) := by
  have := BB.sl h.2.2.2 0 k k (by rw [List.length_replicate]; omega) (Nat.le_refl _)
  rw [List.drop_zero, List.take_of_length_le (by rw [List.length_replicate]; exact Nat.le_refl _)] at this
  rw [v0_len]
  exact this (by have := h.1.2.2; unfold maxLen; omega)
/-- behind each step: the page has q such versions, the box is as it was -/
structure FI (w wr : World) (k T D P : Nat) (h : Prop) : Prop where
  rp : h
  box : Boxed wr w.heap.size k T D
  bel : Below w.heap.size w wr
  tp : T < P
  dp : D < P
  pw : w.heap.size ≤ P
theorem FI.only {w wr w' : World} {k T D P : Nat} {h h' : Prop} (f : FI w wr k T D P h) (ho : Only P wr w') (hp : h') : FI w w' k T D P h' :=
  ⟨hp, f.box.keep (ho.block T (Blk.lt f.box.2.2.1) (Nat.ne_of_lt f.tp)) (ho.block D (Blk.lt f.box.2.2.2) (Nat.ne_of_lt f.dp)), f.bel.trans (ho.below f.bel.size f.pw), f.tp, f.dp, f.pw⟩
theorem FI.below {w wr w' : World} {k T D P : Nat} {h h' : Prop} (f : FI w wr k T D P h) (hb : Below wr.heap.size wr w') (hp : h') : FI w w' k T D P h' :=
  ⟨hp, f.box.below hb, f.bel.trans (hb.mono f.bel.size), f.tp, f.dp, f.pw⟩
theorem FI.drewN {w wr : World} {k T D P : Nat} {h : Prop} (f : FI w wr k T D P h) (m : Nat) : FI w (wr.drewN m) k T D P h :=
  ⟨f.rp, f.box, ⟨f.bel.os, f.bel.tape, f.bel.output, f.bel.size, f.bel.block⟩, f.tp, f.dp, f.pw⟩
theorem fills_walk (w : World) (z : Int) (xs : List UInt8) (A : Option Addr) (n c : Nat) (hz : 0 ≤ z ∧ z ≤ 255) (hl : xs.length = n) (hs : Sl w w.heap.size 1 A n c (u8s xs)) :
    Calls Try.prog 5 #[.int .u8 z, .slice A n c] w fun e w' => e = .returned (.bool true) ∧ Below w.heap.size w w' := by
  have hcap := hs.cap
  have hle := hs.le
  unfold maxLen at hcap
  have HS := Lib.hid hs
  have HL := Lib.hid hl
  obtain ⟨k, hk, hk2⟩ : ∃ k : Nat, Int.tmod z 201 = k ∧ k ≤ 200 := ⟨(Int.tmod z 201).toNat, by rw [Int.tmod_eq_emod_of_nonneg hz.1]; omega, by rw [Int.tmod_eq_emod_of_nonneg hz.1]; omega⟩
  have mk := fun w0 => make_u8 k (by omega) w0
  clear hs hl
  go_enter Try.func5, Try.ntmps5
  go_wp2_with fail
  refine (awake5 _).mono ?_
  rintro e w1 ⟨rfl, hb1⟩
  have HB1 := Lib.hid hb1
  clear hb1
  go_wp2_with fail
  go_upto_region 4 with fail
  go_cut [6] from 22 to 25 (fun t wx => ∃ T D, t = .pointer (some ⟨T, 0, none⟩) ∧ Boxed wx w1.heap.size k T D ∧ Below w1.heap.size w1 wx)
  case first =>
    go_region_with (first | (go_at_call 33; refine (nowhere_eq _).mono ?_; rintro e w2 ⟨rfl, rfl⟩))
    all_goals (go_wp2_with fail)
    all_goals go_meet
    all_goals refine ⟨_, _, rfl, ⟨⟨?_, ?_, hk2⟩, trivial, by first | exact b3a _ _ _ _ _ | exact b3b _ _ _ _ _ | exact b3c _ _ _ _ _, by first | exact b3a _ _ _ _ _ | exact b3b _ _ _ _ _ | exact b3c _ _ _ _ _⟩, by first | exact (bel3 _ _ _ _).drew | exact bel3 _ _ _ _⟩
    all_goals omega
  case rest =>
    obtain ⟨T, D, rfl, hbox, hbc⟩ := hcut
    have HBOX := Lib.hid hbox
    have HBC := Lib.hid (HB1.out.trans (hbc.mono HB1.out.size))
    clear hbc mk
    go_wp2_with fail
    refine (rp_new (v0 k) wc).mono ?_
    rintro e w3 ⟨rfl, hrp, hbp⟩
    obtain ⟨P, hP⟩ : ∃ P, wc.heap.size = P := ⟨_, rfl⟩
    rw [hP] at hrp hbp ⊢
    have hbx : Boxed wc w.heap.size k T D := ⟨⟨Nat.le_trans HB1.out.size HBOX.out.1.1, Nat.le_trans HB1.out.size HBOX.out.1.2.1, hk2⟩, HBOX.out.2⟩
    have hfi : FI w w3 k T D P (Rp w3 P (v0 k) 0) := ⟨hrp, hbx.below (by rw [hP]; exact hbp), HBC.out.trans (hbp.mono (by rw [← hP]; exact HBC.out.size)), by rw [← hP]; exact Blk.lt hbx.2.2.1, by rw [← hP]; exact Blk.lt hbx.2.2.2, by rw [← hP]; exact HBC.out.size⟩
    have HFI := Lib.hid hfi
    obtain ⟨N, hN⟩ : ∃ N, 508 / (34 + k) = N := ⟨_, rfl⟩
    have hN1 : N * (34 + k) ≤ 508 := by rw [← hN]; exact Nat.div_mul_le_self _ _
    have hN2 : 508 < (N + 1) * (34 + k) := by rw [← hN]; exact (Nat.div_lt_iff_lt_mul (by omega)).1 (Nat.lt_succ_self _)
    have hN3 : 2 ≤ N := by rw [← hN]; exact (Nat.le_div_iff_mul_le (by omega)).2 (by omega)
    have hN4 : N ≤ 14 := by rw [← hN]; exact Nat.div_le_div_left (show 34 ≤ 34 + k by omega) (by omega)
    have hNI : Int.tdiv 508 (34 + (k : Int)) = N := by rw [← hN]; rw [show (34 + (k : Int)) = ((34 + k : Nat) : Int) by push_cast; rfl]; exact (Int.ofNat_tdiv 508 (34 + k)).symm
    have HNN := Lib.hid (And.intro hN1 hN2)
    have hsz : (v0 k).sz + 4 = 34 + k := by unfold Ver.sz; rw [v0_len]; omega
    have HSZ := Lib.hid hsz
    have HVO := Lib.hid (v0_ok hk2)
    clear hN hN1 hN2 hfi hbx hrp hbp hP hsz hbox HBOX HBC
    go_wp2_with fail
    go_loopw [8, 27] (fun nv i wr => ∃ q : Nat, q ≤ N ∧ nv = .int .i64 q ∧ i = .int .i64 q ∧ FI w wr k T D P (Rp wr P (v0 k) q)) (fun _ i _ => 20 - (intOf i).toNat)
    case atStart => exact ⟨0, by omega, rfl, rfl, HFI.out⟩
    case round =>
      obtain ⟨q, hq, rfl, rfl, hfi⟩ := hrel
      have HQ := Lib.hid hfi
      clear hfi HFI
      have hq20 : (q : Int) < 20 := by omega
      have x0 := (HQ.out.box.2.2.1).cell 0
      have x1 := (HQ.out.box.2.2.1).cell 1
      have x2 := (HQ.out.box.2.2.1).cell 2
      have x3 := (HQ.out.box.2.2.1).cell 3
      have x4 := (HQ.out.box.2.2.1).cell 4
      have x5 := (HQ.out.box.2.2.1).cell 5
      by_cases hlt : q < N
      · have CI := Lib.hid (rp_insert (c := k) HQ.out.rp HVO.out HQ.out.box.sl (by rw [HSZ.out]; exact Nat.le_trans (Nat.mul_le_mul_right _ (by omega)) HNN.out.1))
        rw [v0_tup, v0_len] at CI
        go_wp2_with fail
        clear x0 x1 x2 x3 x4 x5
        refine CI.out.mono ?_
        rintro e w4 ⟨rfl, h4, ho4⟩
        have H4 := Lib.hid (HQ.out.only ho4 h4)
        clear h4 ho4
        go_wp2_with fail
        go_roundw
        case rel => exact ⟨q + 1, by omega, by go_num, by go_num, H4.out⟩
        case measure => simp [intOf]; omega
      · obtain rfl : q = N := by omega
        have CI := Lib.hid (rp_full (c := k) HQ.out.rp HVO.out HQ.out.box.sl (by rw [HSZ.out]; exact HNN.out.2))
        rw [v0_tup, v0_len] at CI
        go_wp2_with fail
        clear x0 x1 x2 x3 x4 x5
        refine CI.out.mono ?_
        rintro e w4 ⟨rfl, hb4⟩
        have H4 := Lib.hid (HQ.out.below hb4 (HQ.out.rp.keep (hb4.block P HQ.out.rp.lt)))
        clear hb4
        go_wp2_with fail
        go_loopw [47] (fun i wr => ∃ m : Nat, m ≤ n ∧ i = .int .i64 m ∧ FI w wr k T D P (Rp wr P (v0 k) q)) (fun i _ => n - (intOf i).toNat)
        case atStart => exact ⟨0, by omega, rfl, H4.out⟩
        case round =>
          obtain ⟨m, hm, rfl, hfi⟩ := hrel
          have HQ := Lib.hid hfi
          clear hfi H4 CI
          have CU := Lib.hid (rp_used HQ.out.rp)
          have hqn : (q : Int) ≠ 0 := by omega
          by_cases hlt : m < n
          · have hlt' : (m : Int) < n := by omega
            by_cases h12 : m < 12
            · have h12' : ¬ (12 : Int) ≤ m := by omega
              obtain ⟨b, hb⟩ : ∃ b, xs[m]? = some b := ⟨_, List.getElem?_eq_getElem (by rw [HL.out]; exact hlt)⟩
              obtain ⟨ad, rfl, hAt⟩ := HS.out.at_ (by omega)
              have y0 := u8s_at (hAt.below HQ.out.bel) hb
              have hbl : (b.toNat : Int) ≤ 255 := by have := b.toNat_lt; omega
              have hbw : wrap64 (b.toNat : Int) = (b.toNat : Int) := by unfold wrap64; omega
              have hj : Int.tmod (b.toNat : Int) (q : Int) = ((b.toNat % q : Nat) : Int) := (Int.ofNat_tmod _ _).symm
              have hjl : b.toNat % q < q := Nat.mod_lt _ (by omega)
              obtain ⟨j, hje⟩ : ∃ j, b.toNat % q = j := ⟨_, rfl⟩
              rw [hje] at hj hjl
              have CF := Lib.hid (rp_free HQ.out.rp hjl)
              clear hb hAt hje
              go_wp2_with fail
              clear y0
              refine CF.out.mono ?_
              rintro e w5 ⟨rfl, h5, ho5⟩
              have H5 := Lib.hid (HQ.out.only ho5 h5)
              clear h5 ho5
              have CI := Lib.hid (ho_insert (c := k) H5.out.rp HVO.out H5.out.box.sl (by rw [HSZ.out]; exact HNN.out.1))
              rw [v0_tup, v0_len] at CI
              have x0 := (H5.out.box.2.2.1).cell 0
              have x1 := (H5.out.box.2.2.1).cell 1
              have x2 := (H5.out.box.2.2.1).cell 2
              have x3 := (H5.out.box.2.2.1).cell 3
              have x4 := (H5.out.box.2.2.1).cell 4
              have x5 := (H5.out.box.2.2.1).cell 5
              go_wp2_with fail
              clear x0 x1 x2 x3 x4 x5
              refine CI.out.mono ?_
              rintro e w6 ⟨rfl, h6, ho6⟩
              have H6 := Lib.hid (H5.out.only ho6 h6)
              clear h6 ho6
              have CG := Lib.hid (rp_full (c := k) H6.out.rp HVO.out H6.out.box.sl (by rw [HSZ.out]; exact HNN.out.2))
              rw [v0_tup, v0_len] at CG
              have x0 := (H6.out.box.2.2.1).cell 0
              have x1 := (H6.out.box.2.2.1).cell 1
              have x2 := (H6.out.box.2.2.1).cell 2
              have x3 := (H6.out.box.2.2.1).cell 3
              have x4 := (H6.out.box.2.2.1).cell 4
              have x5 := (H6.out.box.2.2.1).cell 5
              go_wp2_with fail
              clear x0 x1 x2 x3 x4 x5
              refine CG.out.mono ?_
              rintro e w7 ⟨rfl, hb7⟩
              have H7 := Lib.hid (H6.out.below hb7 (H6.out.rp.keep (hb7.block P H6.out.rp.lt)))
              clear hb7
              go_wp2_with fail
              go_roundw
              case rel => exact ⟨m + 1, by omega, by go_num, H7.out⟩
              case measure => simp [intOf]; omega
            · have h12' : (12 : Int) ≤ m := by omega
              obtain ⟨b, hb⟩ : ∃ b, xs[m]? = some b := ⟨_, List.getElem?_eq_getElem (by rw [HL.out]; exact hlt)⟩
              obtain ⟨ad, rfl, hAt⟩ := HS.out.at_ (by omega)
              have y0 := u8s_at (hAt.below HQ.out.bel) hb
              clear hb hAt
              go_wp2_with fail
              clear y0
              refine CU.out.mono ?_
              rintro e w5 ⟨rfl, m5, rfl⟩
              go_wp2_with fail
              go_ret
              exact ⟨rfl, (HQ.out.drewN m5).bel⟩
          · obtain rfl : m = n := by omega
            go_wp2_with fail
            refine CU.out.mono ?_
            rintro e w5 ⟨rfl, m5, rfl⟩
            go_wp2_with fail
            go_ret
            exact ⟨rfl, (HQ.out.drewN m5).bel⟩
end Go.Proofs.Ytbpgjpopmohbmaa.Mem
