/- Texts RfF to FillA, one behind the other. -/
import Derived.Test.YthghnhcopmmmpaaMPHC2
import Derived.Deep.RegionHeld3
import Derived.Deep.CutRange
import Derived.ProofKit
import Derived.OpenShut
import Derived.Carry
import Derived.ChangeSlices
import Derived.Lib.SmallJoins
import Derived.Deep.Strs
/- lapidaryref05.Insert. -/
namespace Go.Proofs.Ythghnhcopmmmpaa.Mem
open Go.RowKit Go.Proofs.Ythghnhcopmmmpaa.Nums
set_option linter.unusedVariables false
set_option linter.unusedSimpArgs false
set_option maxRecDepth 100000
set_option maxHeartbeats 4000000
section
variable {w : World} {F : Nat → Prop} {R st c : Nat} {E : List Ent} {A : Option Addr}
theorem rins_full (h : RfA w F R E st A c) (hl : E.length ≤ 127) (hvs : ∀ (i : Nat) (v : Ver) (f : Nat), (E.map Prod.fst)[i]? = some (some (v, f)) → v.d.length ≤ 200) (v : Ver) (A0 : Option Addr) (c0 : Nat) (hv : v.ok) (hs : Sl w w.heap.size 1 A0 v.d.length c0 (u8s v.d)) (hroom : roomL (E.map Prod.fst) < (v.d.length : Int)) :
    Calls Try.prog 64 #[.pointer (some ⟨R, 0, none⟩), tupV v (.slice A0 v.d.length c0)] w fun e w' => e = .returned (.tuple #[.int .i64 0, .int .i64 12]) ∧ Below w.heap.size w w' := by
  have hle := h.le
  unfold maxLen at hle
  have H := Lib.hid h
  have HV := Lib.hid hvs
  have hok := hv.tuOk
  have hd200 := hv.d
  obtain ⟨n, hn⟩ : ∃ n, v.d.length = n := ⟨_, rfl⟩
  rw [hn] at hok hs hroom hd200 ⊢
  have HN := Lib.hid hn
  have HS := Lib.hid hs
  unfold tupV
  obtain ⟨p, hp⟩ : ∃ p : Int, (v.p : Int) - 1 = p := ⟨_, rfl⟩
  obtain ⟨s, hs1⟩ : ∃ s : Int, (v.s : Int) - 1 = s := ⟨_, rfl⟩
  rw [hp, hs1] at hok ⊢
  have HPS := Lib.hid (And.intro hp hs1)
  obtain ⟨b0, hb0⟩ : ∃ b0, w.heap.size = b0 := ⟨_, rfl⟩
  obtain ⟨W1, hW1⟩ : ∃ W1, w.alloc (.cells #[.int .u64 v.r, .int .u64 v.a, .int .u64 v.b, .int .i64 p, .int .i64 s, .slice A0 n c0] 33) = W1 := ⟨_, rfl⟩
  have HT1 : Hid (Blk W1 b0 33 #[.int .u64 v.r, .int .u64 v.a, .int .u64 v.b, .int .i64 p, .int .i64 s, .slice A0 n c0]) := Lib.hid (by rw [← hW1, ← hb0]; exact Blk.new w _ _)
  have HB1 : Hid (Below b0 w W1) := Lib.hid (by rw [← hW1, ← hb0]; exact bel_alloc _ _)
  have HW1 := Lib.hid hW1
  have CR := Lib.hid (rright_any v.r v.a v.b p s A0 n c0 W1)
  rw [hok] at CR
  have HBZ := Lib.hid hb0
  have x0 := HT1.out.cell 0
  have x1 := HT1.out.cell 1
  have x2 := HT1.out.cell 2
  have x3 := HT1.out.cell 3
  have x4 := HT1.out.cell 4
  have x5 := HT1.out.cell 5
  rw [← hW1] at x0 x1 x2 x3 x4 x5
  clear h hvs hs hok hp hs1 hn hW1
  go_enter Try.func64, Try.ntmps64
  rw [hb0]
  go_wp2_with fail
  clear x0 x1 x2 x3 x4 x5
  rw [HW1.out]
  refine CR.out.mono ?_
  rintro e w2 ⟨rfl, hb2⟩
  have HT2 := Lib.hid (Blk.below HT1.out hb2 (Blk.lt HT1.out))
  have HB2 : Hid (Below b0 w w2) := Lib.hid (HB1.out.trans (hb2.mono (Nat.le_of_lt (Blk.lt HT1.out))))
  clear hb2 CR
  go_wp2_with fail
  have H2 := Lib.hid (H.out.below (by rw [HBZ.out]; exact HB2.out))
  obtain ⟨rm, hrm⟩ : ∃ rm, roomL (E.map Prod.fst) = rm := ⟨_, rfl⟩
  have HRM := Lib.hid hrm
  have HRC : Hid (∀ w0, RfA w0 F R E st A c → Calls Try.prog 22 #[.pointer (some ⟨R, 0, none⟩)] w0 fun e w' => e = .returned (.int .i64 rm) ∧ Below w0.heap.size w0 w') := Lib.hid (fun w0 h0 => by have := rroom_any h0 (by omega) HV.out; rwa [HRM.out] at this)
  rw [hrm] at hroom
  have x5 := HT2.out.cell 5
  clear hrm
  go_region_held3 (fun w' => w'.cell? ⟨b0, 5, none⟩ = some (.slice A0 n c0)) (first | go_keep | exact (hb3.cell (p := ⟨b0, 5, none⟩) (Blk.lt HT2.out)).trans (HT2.out.cell 5)) (first | (go_at_call 22; refine (HRC.out _ (RfA.drew H2.out)).mono ?_; rintro e w3 ⟨rfl, hb3⟩))
  have HT3 := Lib.hid (Blk.below (Blk.drew HT2.out) hb3 (Blk.lt HT2.out))
  have HB3 : Hid (Below b0 w w3) := Lib.hid (HB2.out.drew.trans (hb3.mono (Nat.le_of_lt (Blk.lt HT2.out))))
  clear hb3 x5
  go_wp2_with fail
  go_ret2
  exact ⟨rfl, HB3.out⟩

theorem rins_ok (h : RfA w F R E st A c) (hl : E.length ≤ 127) (hst : st ≤ 512) (hvs : ∀ (i : Nat) (v : Ver) (f : Nat), (E.map Prod.fst)[i]? = some (some (v, f)) → v.d.length ≤ 200) (v : Ver) (A0 : Option Addr) (c0 : Nat) (hv : v.ok) (hs : Sl w w.heap.size 1 A0 v.d.length c0 (u8s v.d)) (hroom : ¬ roomL (E.map Prod.fst) < (v.d.length : Int)) :
    Calls Try.prog 64 #[.pointer (some ⟨R, 0, none⟩), tupV v (.slice A0 v.d.length c0)] w fun e w' => e = .returned (.tuple #[.int .i64 (nextL (E.map Prod.fst)), .int .i64 0]) ∧ (∃ E' A' c', E'.map Prod.fst = (insS (E.map Prod.fst) st v).1 ∧ RfA w' (fun g => F g ∨ (w.heap.size ≤ g ∧ g < w'.heap.size)) R E' (insS (E.map Prod.fst) st v).2 A' c') ∧ Turn F w w' := by
  have hle := h.le
  unfold maxLen at hle
  have H := Lib.hid h
  have HV := Lib.hid hvs
  have hok := hv.tuOk
  have hd200 := hv.d
  obtain ⟨n, hn⟩ : ∃ n, v.d.length = n := ⟨_, rfl⟩
  rw [hn] at hok hs hroom hd200 ⊢
  have HN := Lib.hid hn
  have HS := Lib.hid hs
  unfold tupV
  obtain ⟨p, hp⟩ : ∃ p : Int, (v.p : Int) - 1 = p := ⟨_, rfl⟩
  obtain ⟨s, hs1⟩ : ∃ s : Int, (v.s : Int) - 1 = s := ⟨_, rfl⟩
  rw [hp, hs1] at hok ⊢
  have HPS := Lib.hid (And.intro hp hs1)
  obtain ⟨b0, hb0⟩ : ∃ b0, w.heap.size = b0 := ⟨_, rfl⟩
  obtain ⟨W1, hW1⟩ : ∃ W1, w.alloc (.cells #[.int .u64 v.r, .int .u64 v.a, .int .u64 v.b, .int .i64 p, .int .i64 s, .slice A0 n c0] 33) = W1 := ⟨_, rfl⟩
  have HT1 : Hid (Blk W1 b0 33 #[.int .u64 v.r, .int .u64 v.a, .int .u64 v.b, .int .i64 p, .int .i64 s, .slice A0 n c0]) := Lib.hid (by rw [← hW1, ← hb0]; exact Blk.new w _ _)
  have HB1 : Hid (Below b0 w W1) := Lib.hid (by rw [← hW1, ← hb0]; exact bel_alloc _ _)
  have HW1 := Lib.hid hW1
  have CR := Lib.hid (rright_any v.r v.a v.b p s A0 n c0 W1)
  rw [hok] at CR
  have HBZ := Lib.hid hb0
  have x0 := HT1.out.cell 0
  have x1 := HT1.out.cell 1
  have x2 := HT1.out.cell 2
  have x3 := HT1.out.cell 3
  have x4 := HT1.out.cell 4
  have x5 := HT1.out.cell 5
  rw [← hW1] at x0 x1 x2 x3 x4 x5
  clear h hvs hs hok hp hs1 hn hW1
  go_enter Try.func64, Try.ntmps64
  rw [hb0]
  go_wp2_with fail
  clear x0 x1 x2 x3 x4 x5
  rw [HW1.out]
  refine CR.out.mono ?_
  rintro e w2 ⟨rfl, hb2⟩
  have HT2 := Lib.hid (Blk.below HT1.out hb2 (Blk.lt HT1.out))
  have HB2 : Hid (Below b0 w w2) := Lib.hid (HB1.out.trans (hb2.mono (Nat.le_of_lt (Blk.lt HT1.out))))
  clear hb2 CR
  go_wp2_with fail
  have H2 := Lib.hid (H.out.below (by rw [HBZ.out]; exact HB2.out))
  obtain ⟨rm, hrm⟩ : ∃ rm, roomL (E.map Prod.fst) = rm := ⟨_, rfl⟩
  have HRM := Lib.hid hrm
  have HRC : Hid (∀ w0, RfA w0 F R E st A c → Calls Try.prog 22 #[.pointer (some ⟨R, 0, none⟩)] w0 fun e w' => e = .returned (.int .i64 rm) ∧ Below w0.heap.size w0 w') := Lib.hid (fun w0 h0 => by have := rroom_any h0 (by omega) HV.out; rwa [HRM.out] at this)
  rw [hrm] at hroom
  have x5 := HT2.out.cell 5
  clear hrm
  go_region_held3 (fun w' => w'.cell? ⟨b0, 5, none⟩ = some (.slice A0 n c0)) (first | go_keep | exact (hb3.cell (p := ⟨b0, 5, none⟩) (Blk.lt HT2.out)).trans (HT2.out.cell 5)) (first | (go_at_call 22; refine (HRC.out _ (RfA.drew H2.out)).mono ?_; rintro e w3 ⟨rfl, hb3⟩))
  have HT3 := Lib.hid (Blk.below (Blk.drew HT2.out) hb3 (Blk.lt HT2.out))
  have HB3 : Hid (Below b0 w w3) := Lib.hid (HB2.out.drew.trans (hb3.mono (Nat.le_of_lt (Blk.lt HT2.out))))
  clear hb3 x5
  have CC := Lib.hid (copy_any v.d A0 n c0 w3 (HS.out.on (by rw [HBZ.out]; exact HB3.out)) (by omega))
  have x5 := HT3.out.cell 5
  go_wp2_with fail
  clear x5
  refine CC.out.mono ?_
  rintro e w4 ⟨u, rfl, hou, hb4⟩
  obtain ⟨Au, cu, rfl, hsu⟩ := Sl.of_own hou
  have HT4 := Lib.hid (Blk.below HT3.out hb4 (Blk.lt HT3.out))
  have hb04 : b0 ≤ w3.heap.size := Nat.le_of_lt (Blk.lt HT3.out)
  have HB4 : Hid (Below b0 w w4) := Lib.hid (HB3.out.trans (hb4.mono hb04))
  have x5 := HT4.out.cell 5
  have f5 := HT4.out.frozen 5
  obtain ⟨w5, hw5⟩ : ∃ w5, w4.setCell ⟨b0, 5, none⟩ (.slice Au n cu) = w5 := ⟨_, rfl⟩
  have HB5 : Hid (Below b0 w w5) := Lib.hid (by rw [← hw5]; exact HB4.out.setCell (p := ⟨b0, 5, none⟩) (Nat.le_refl _) _)
  have HT5 : Hid (Blk w5 b0 33 #[.int .u64 v.r, .int .u64 v.a, .int .u64 v.b, .int .i64 p, .int .i64 s, .slice Au n cu]) := Lib.hid (by rw [← hw5]; exact Blk.set_ HT4.out 5 _)
  have HU5 : Hid (OwnB w5 (b0 + 1) (.slice Au n cu) n (u8s v.d)) := Lib.hid (by
    have h1 := own_mono hou (show b0 + 1 ≤ w3.heap.size from Blk.lt HT3.out)
    exact own_keep h1 fun k hk => by rw [← hw5]; exact Below.heap_setCell _ _ _ _ (by have := (h1.lt k hk).1; show k ≠ b0; omega))
  have H5 := Lib.hid (H.out.below (by rw [HBZ.out]; exact HB5.out))
  have HW5 := Lib.hid hw5
  clear hou hsu hb4 hw5 CC hb04
  go_upto_region 8 with fail
  clear x5 f5
  rw [HW5.out]
  have x0 := H5.out.blk.cell 0
  have x1 := H5.out.blk.cell 1
  obtain ⟨L, hL⟩ : ∃ L, E.map Prod.fst = L := ⟨_, rfl⟩
  have hLl : L.length = E.length := by rw [← hL, List.length_map]
  have HLL := Lib.hid hL
  clear hL
  go_wp2_with fail
  go_loopw [6, 7] (fun sl i wr => ∃ k m : Nat, k ≤ E.length ∧ i = .int .i64 ((k : Int) - 1) ∧ sl = .int .i64 (slotFrom L k : Nat) ∧ wr = w5.drewN m) (fun _ i _ => (intOf i + 1).toNat)
  case atStart => exact ⟨E.length, 0, Nat.le_refl _, rfl, by rw [← hLl, slotFrom_end], rfl⟩
  case round =>
    obtain ⟨k, m, hk, rfl, rfl, rfl⟩ := hrel
    have H6 := Lib.hid (H5.out.drewN m)
    cases k with
    | succ k =>
      have hkE : k < E.length := by omega
      obtain ⟨⟨o, uu⟩, hek⟩ : ∃ e, E[k]? = some e := ⟨_, List.getElem?_eq_getElem hkE⟩
      obtain ⟨g, cur, rfl, _, _, _, _⟩ := H6.out.arr hkE
      have hLk : L[k]? = some o := by rw [← HLL.out]; exact map_at hek
      have k1 : ((k : Int) + 1 - 1) = k := by omega
      have k2 : (0 : Int) ≤ k := by omega
      have k3 : (k : Int) < E.length := by omega
      cases o with
      | none =>
        obtain ⟨y0, y1, y2, y3, y4, y5, y6, y7⟩ := H6.out.free8 hek rfl
        have HSF := Lib.hid (slotFrom_none hLk)
        clear y1 y2 y3 y4 y5 y6 y7 hek hLk
        go_wp2_with fail
        go_roundw
        case rel => exact ⟨k, m, by omega, by go_num <;> (congr 1; omega), by rw [HSF.out]; (congr 1 <;> omega), rfl⟩
        case measure => simp [intOf]
      | some x =>
        obtain ⟨xv, xf⟩ := x
        obtain ⟨y0, y1, y2, y3, y4, y5, y6, y7⟩ := H6.out.full8 hek rfl
        have HSF := Lib.hid (slotFrom_some hLk)
        clear y1 y2 y3 y4 y5 y6 y7 hek hLk
        go_wp2_with fail
        go_roundw
        case rel => exact ⟨k, m, by omega, by go_num <;> (congr 1; omega), by rw [HSF.out], rfl⟩
        case measure => simp [intOf]
    | zero =>
      rw [slotFrom_zero]
      obtain ⟨q, hq⟩ : ∃ q, nextL L = q := ⟨_, rfl⟩
      have HQ := Lib.hid hq
      have hqle := nextL_le L
      rw [hq] at hqle ⊢
      clear hq
      have hrl := roomL_le (L := L) (n := n) (by rw [← HLL.out, HRM.out]; omega)
      rw [HQ.out] at hrl
      have HU5' : OwnB w5 (b0 + 1) (.slice Au n cu) v.d.length (u8s v.d) := by rw [HN.out]; exact HU5.out
      have HI0 : Hid (RIn w w5 F b0 R E st A c #[.int .u64 v.r, .int .u64 v.a, .int .u64 v.b, .int .i64 p, .int .i64 s, .slice Au n cu] (.slice Au n cu) v.d) := Lib.hid ⟨H5.out.more (fun g hg => .inl hg) (fun g hg => hg.elim (H5.out.lt g) (fun k => k.2)), HT5.out, HU5', Turn.of_below (by rw [HBZ.out]; exact HB5.out), HBZ.out⟩
      clear HU5' x0 x1
      obtain ⟨M, hM⟩ : ∃ M, max L.length (q + 1) = M := ⟨_, rfl⟩
      rw [hM] at hrl
      rcases Nat.lt_or_ge q L.length with hqL | hqL
      · have hML : E.length = M := by omega
        have HE1 : Hid (E.map Prod.fst = L) := HLL
        obtain ⟨L1, hL1⟩ : ∃ L1, L = L1 := ⟨_, rfl⟩
        have HIN := Lib.hid (ins_eq (L := L) (L1 := L1) (st := st) (q := q) (M := M) (v := v) HQ.out hqle (.inl ⟨hqL, hL1.symm⟩) hM)
        rw [hL1] at HE1
        have hEq : ∃ uq, E[q]? = some (none, uq) := by
          have h1 : L[q]? = some none := by have h2 := nextL_free (L := L) (by rw [HQ.out]; exact hqL); rwa [HQ.out] at h2
          rw [← HLL.out, List.getElem?_map] at h1
          cases h3 : E[q]? with
          | none => rw [h3] at h1; cases h1
          | some e =>
            obtain ⟨o, uq⟩ := e
            rw [h3] at h1
            injection h1 with h1
            have h1' : o = none := h1
            subst h1'
            exact ⟨uq, rfl⟩
        obtain ⟨uq, hEq⟩ := hEq
        have HE1Q := Lib.hid hEq
        have hqne : ¬ (q : Int) = E.length := by omega
        have hqM : q < M := by omega
        have HI := Lib.hid (HI0.out.drewN m)
        clear hEq HI0 hL1
        obtain ⟨w9, hw9⟩ : ∃ w9, w5.drewN m = w9 := ⟨_, rfl⟩
        rw [hw9] at HI ⊢
        clear hw9 H5 H6 HT5 HU5 HB5
        have x0 := HI.out.rf.blk.cell 0
        have x1 := HI.out.rf.blk.cell 1
        have x5 := HI.out.box.cell 5
        have f1 := HI.out.rf.blk.frozen 1
        have hz : v.sz = 30 + n := by show 30 + v.d.length = _; rw [HN.out]
        have HENT : Hid (∀ a : Nat, entV (some (v, a), (.slice Au n cu)) = [.bool true, .int .u64 v.r, .int .u64 v.a, .int .u64 v.b, .int .i64 p, .int .i64 s, (.slice Au n cu), .int .i64 a]) := Lib.hid (fun a => by simp only [entV, HPS.out.1, HPS.out.2])
        by_cases hc : st < v.sz + (4 + 4 * M)
        · have HFI := Lib.hid (HIN.out.2.2.1 hc)
          have htl : tot L1 + n ≤ 478 := by rw [HIN.out.2.1]; omega
          have hk1 : (st : Int) - (30 + (n : Int)) < 4 + 4 * (M : Int) := by omega
          rw [hML] at x0
          go_wp2_with fail
          go_quiet (fail)
          clear x5
          go_upto_region 19 with fail
          obtain ⟨w10, hw10⟩ : ∃ w10, (w9.drewN nq).setCell ⟨R, 1, none⟩ (.int .i64 512) = w10 := ⟨_, rfl⟩
          have HJ : Hid (RIn w w10 F b0 R E 512 A c #[.int .u64 v.r, .int .u64 v.a, .int .u64 v.b, .int .i64 p, .int .i64 s, .slice Au n cu] (.slice Au n cu) v.d) := Lib.hid (by rw [← hw10]; exact (HI.out.drewN _).setSt 512)
          rw [hw10]
          clear hw10 x0 x1 f1
          have x0 := HJ.out.rf.blk.cell 0
          rw [hML] at x0
          go_wp2_with fail
          clear x0
          go_loopw [94] (fun i wr => ∃ k : Nat, k ≤ M ∧ i = .int .i64 k ∧ RIn w wr F b0 R (packE E k) (512 - tot (L1.take k)) A c #[.int .u64 v.r, .int .u64 v.a, .int .u64 v.b, .int .i64 p, .int .i64 s, .slice Au n cu] (.slice Au n cu) v.d) (fun i _ => M - (intOf i).toNat)
          case atStart => exact ⟨0, by omega, rfl, by rw [packE_zero]; simpa [tot] using HJ.out⟩
          case round =>
            obtain ⟨k, hk, rfl, hin⟩ := hrel
            have HK := Lib.hid hin
            have hPL : (packE E k).length = M := by rw [packE_len, hML]
            clear hin
            by_cases hlt : k < M
            · have hlt' : (k : Int) < M := by omega
              obtain ⟨⟨o, uu⟩, hek⟩ : ∃ e, (E)[k]? = some e := ⟨_, List.getElem?_eq_getElem (by omega)⟩
              have hpk := packE_at hek
              have hkP : k < (packE E k).length := by rw [hPL]; exact hlt
              obtain ⟨g, cur, hAg, _, _, _, _⟩ := HK.out.rf.arr hkP
              have hLk : L1[k]? = some o := by rw [← HE1.out]; exact map_at hek
              have x0 := HK.out.rf.blk.cell 0
              have x1 := HK.out.rf.blk.cell 1
              have f1 := HK.out.rf.blk.frozen 1
              rw [hPL] at x0
              have hk0 : (0 : Int) ≤ k := by omega
              cases o with
              | none =>
                obtain ⟨y0, y1, y2, y3, y4, y5, y6, y7⟩ := HK.out.rf.free8 hpk hAg
                have HPE := Lib.hid (packE_none hek)
                have HTT : Hid (tot (L1.take (k + 1)) = tot (L1.take k)) := Lib.hid (by rw [tot_take_succ hLk]; rfl)
                subst hAg
                clear hek hpk hLk
                go_wp2_with fail
                go_roundw
                case rel => exact ⟨k + 1, by omega, by go_num, by rw [HPE.out, HTT.out]; exact HK.out.below (bel_alloc _ _)⟩
                case measure => simp [intOf]; omega
              | some x =>
                obtain ⟨xv, xf⟩ := x
                obtain ⟨y0, y1, y2, y3, y4, y5, y6, y7⟩ := HK.out.rf.full8 hpk hAg
                obtain ⟨Ax, cx, rfl, _⟩ := Sl.of_own (HK.out.rf.data k xv xf uu hpk).1
                have z7 := HK.out.rf.frozen hkP hAg (k * 8 + 7)
                have HPE := Lib.hid (packE_some hek)
                have htk : tot (L1.take (k + 1)) = tot (L1.take k) + (30 + xv.d.length) := tot_take_succ hLk
                have htk2 := tot_take_le L1 (k + 1)
                obtain ⟨a1, ha1⟩ : ∃ a1, 512 - tot (L1.take k) = a1 := ⟨_, rfl⟩
                obtain ⟨a2, ha2⟩ : ∃ a2, 512 - tot (L1.take (k + 1)) = a2 := ⟨_, rfl⟩
                have haa : (a1 : Int) - (30 + (xv.d.length : Int)) = a2 := by omega
                rw [HE1.out, ha2] at HPE
                rw [ha1] at HK x1
                have HA2 := Lib.hid ha2
                go_upto_region 22 with fail
                obtain ⟨w20, hw20⟩ : ∃ w20, wr.alloc (.cells #[.bool true, .int .u64 xv.r, .int .u64 xv.a, .int .u64 xv.b, .int .i64 ((xv.p : Int) - 1), .int .i64 ((xv.s : Int) - 1), .slice Ax xv.d.length cx, .int .i64 xf] 122) = w20 := ⟨_, rfl⟩
                obtain ⟨B9, hB9⟩ : ∃ B9, wr.heap.size = B9 := ⟨_, rfl⟩
                have hbx : Blk w20 B9 122 #[.bool true, .int .u64 xv.r, .int .u64 xv.a, .int .u64 xv.b, .int .i64 ((xv.p : Int) - 1), .int .i64 ((xv.s : Int) - 1), .slice Ax xv.d.length cx, .int .i64 xf] := by rw [← hw20, ← hB9]; exact Blk.new wr _ _
                have HK20 := Lib.hid (HK.out.below (bel_alloc wr (.cells #[.bool true, .int .u64 xv.r, .int .u64 xv.a, .int .u64 xv.b, .int .i64 ((xv.p : Int) - 1), .int .i64 ((xv.s : Int) - 1), .slice Ax xv.d.length cx, .int .i64 xf] 122)))
                have HNX := Lib.hid ((HK20.out.setSt a2).put (n := a2) hpk hAg)
                rw [← HPE.out] at HNX
                rw [hw20] at HK20 HNX ⊢
                rw [hB9]
                have b0' := hbx.cell 0
                have b6' := hbx.cell 6
                clear x0 x1 f1 y0 y1 y2 y3 y4 y5 y6 y7 hw20 hB9
                have x0 := HK20.out.rf.blk.cell 0
                have x1 := HK20.out.rf.blk.cell 1
                have f1 := HK20.out.rf.blk.frozen 1
                rw [hPL] at x0
                go_wp2_with fail
                go_region
                clear x0 x1 f1 b0' b6' hbx
                go_upto_region 24 with fail
                obtain ⟨w21, hw21⟩ : ∃ w21, w20.setCell ⟨R, 1, none⟩ (.int .i64 (a2 : Nat)) = w21 := ⟨_, rfl⟩
                have HK21 := Lib.hid (HK20.out.setSt a2)
                rw [hw21] at HK21 HNX ⊢
                clear hw21
                have x0 := HK21.out.rf.blk.cell 0
                have x1 := HK21.out.rf.blk.cell 1
                rw [hPL] at x0
                obtain ⟨y0, y1, y2, y3, y4, y5, y6, y7⟩ := HK21.out.rf.full8 hpk hAg
                have z7 := HK21.out.rf.frozen hkP hAg (k * 8 + 7)
                subst hAg
                clear hek hpk hLk ha2
                go_region
                go_wp2_with fail
                go_roundw
                case rel => exact ⟨k + 1, by omega, by go_num, by rw [HA2.out]; first | exact HNX.out.drewN _ | exact HNX.out.drew | exact HNX.out.drew.drew⟩
                case measure => simp [intOf]; omega
            · obtain rfl : k = M := by omega
              have hpm : (packE E k).map Prod.fst = packL L1 := by rw [← hML, packE_end, HE1.out]
              have HFE : Hid (((packE E k).set q (some (v, 512 - tot L1 - v.sz), (.slice Au n cu))).map Prod.fst = (insS L st v).1) := Lib.hid (by rw [HFI.out, ents_map_set, hpm, HIN.out.2.1])
              have HFS : Hid ((insS L st v).2 = 512 - tot L1 - v.sz) := Lib.hid (by rw [HFI.out, HIN.out.2.1])
              have HE2L : Hid (q < (packE E k).length) := Lib.hid (by rw [hPL]; omega)
              have HE2Q : Hid ((packE E k)[q]? = some (none, uq)) := Lib.hid (by rw [packE_get, HE1Q.out]; simp)
              have hlk : L1.length = k := HIN.out.1
              rw [← hlk, List.take_length] at HK
              rw [hlk] at HK
              have hat : ((512 - tot L1 : Nat) : Int) - (30 + (n : Int)) = ((512 - tot L1 - v.sz : Nat) : Int) := by omega
              obtain ⟨a3, ha3⟩ : ∃ a3, 512 - tot L1 = a3 := ⟨_, rfl⟩
              rw [ha3] at hat HK HFE HFS
              obtain ⟨a4, ha4⟩ : ∃ a4, a3 - v.sz = a4 := ⟨_, rfl⟩
              rw [ha4] at hat HFE HFS
              clear hpm hlk
              have x0 := HK.out.rf.blk.cell 0
              have x1 := HK.out.rf.blk.cell 1
              have f1 := HK.out.rf.blk.frozen 1
              go_upto_region 27 with fail
              clear x0 x1 f1
              obtain ⟨w12, hw12⟩ : ∃ w12, wr.setCell ⟨R, 1, none⟩ (.int .i64 (a4 : Nat)) = w12 := ⟨_, rfl⟩
              have HI3 : Hid (RIn w w12 F b0 R (packE E k) a4 A c #[.int .u64 v.r, .int .u64 v.a, .int .u64 v.b, .int .i64 p, .int .i64 s, .slice Au n cu] (.slice Au n cu) v.d) := Lib.hid (by rw [← hw12]; exact HK.out.setSt _)
              rw [hw12]
              clear hw12
              obtain ⟨g, cur, hAg, _, _, _, _⟩ := HI3.out.rf.arr HE2L.out
              have HAG := Lib.hid hAg
              have HI4 := Lib.hid ((HI3.out.putE (n := a4) (v := v) (e' := (some (v, a4), (.slice Au n cu))) HE2L.out hAg rfl rfl).drew)
              rw [HENT.out a4] at HI4
              obtain ⟨y0, y1, y2, y3, y4, y5, y6, y7⟩ := HI3.out.rf.free8 HE2Q.out hAg
              have z0 := HI3.out.rf.frozen HE2L.out hAg (q * 8)
              have z1 := HI3.out.rf.frozen HE2L.out hAg (q * 8 + 1)
              have z2 := HI3.out.rf.frozen HE2L.out hAg (q * 8 + 2)
              have z3 := HI3.out.rf.frozen HE2L.out hAg (q * 8 + 3)
              have z4 := HI3.out.rf.frozen HE2L.out hAg (q * 8 + 4)
              have z5 := HI3.out.rf.frozen HE2L.out hAg (q * 8 + 5)
              have z6 := HI3.out.rf.frozen HE2L.out hAg (q * 8 + 6)
              have z7 := HI3.out.rf.frozen HE2L.out hAg (q * 8 + 7)
              have x0 := HI3.out.rf.blk.cell 0
              have x1 := HI3.out.rf.blk.cell 1
              have q0 := HI3.out.box.cell 0
              have q1 := HI3.out.box.cell 1
              have q2 := HI3.out.box.cell 2
              have q3 := HI3.out.box.cell 3
              have q4 := HI3.out.box.cell 4
              have q5 := HI3.out.box.cell 5
              have hql := HE2L.out
              have hql' : (q : Int) < ((packE E k)).length := by omega
              have hq0 : (0 : Int) ≤ q := by omega
              subst hAg
              go_region
              all_goals (go_wp2_with fail; go_ret2)
              all_goals refine ⟨by rw [HLL.out, HQ.out]; rfl, ?_, HI4.out.tur⟩
              all_goals exact ⟨((packE E k)).set q (some (v, a4), (.slice Au n cu)), by rw [HLL.out, HFE.out], _, _, by rw [HLL.out, HFS.out]; exact HI4.out.rf⟩
        · have HFI := Lib.hid (HIN.out.2.2.2 hc)
          have hk1 : ¬ (st : Int) - (30 + (n : Int)) < 4 + 4 * (M : Int) := by omega
          have hat : (st : Int) - (30 + (n : Int)) = ((st - v.sz : Nat) : Int) := by omega
          have HFE : Hid (((E).set q (some (v, st - v.sz), (.slice Au n cu))).map Prod.fst = (insS L st v).1) := Lib.hid (by rw [HFI.out, ents_map_set, HE1.out])
          have HFS : Hid ((insS L st v).2 = st - v.sz) := Lib.hid (by rw [HFI.out])
          have HE2L : Hid (q < (E).length) := Lib.hid (by omega)
          have HE2Q := HE1Q
          obtain ⟨a4, ha4⟩ : ∃ a4, st - v.sz = a4 := ⟨_, rfl⟩
          rw [ha4] at hat HFE HFS
          rw [hML] at x0
          have HAT := Lib.hid hat
          clear hat
          go_wp2_with fail
          go_quiet (fail)
          go_upto_region 26 with fail
          clear x0 x1 x5 f1
          have hat := HAT.out
          have HI2 := Lib.hid (HI.out.drewN nq)
          have x0 := HI2.out.rf.blk.cell 0
          have x1 := HI2.out.rf.blk.cell 1
          have f1 := HI2.out.rf.blk.frozen 1
          go_upto_region 27 with fail
          clear x0 x1 f1
          obtain ⟨w12, hw12⟩ : ∃ w12, (w9.drewN nq).setCell ⟨R, 1, none⟩ (.int .i64 (a4 : Nat)) = w12 := ⟨_, rfl⟩
          have HI3 : Hid (RIn w w12 F b0 R E a4 A c #[.int .u64 v.r, .int .u64 v.a, .int .u64 v.b, .int .i64 p, .int .i64 s, .slice Au n cu] (.slice Au n cu) v.d) := Lib.hid (by rw [← hw12]; exact HI2.out.setSt _)
          rw [hw12]
          clear hw12
          obtain ⟨g, cur, hAg, _, _, _, _⟩ := HI3.out.rf.arr HE2L.out
          have HAG := Lib.hid hAg
          have HI4 := Lib.hid ((HI3.out.putE (n := a4) (v := v) (e' := (some (v, a4), (.slice Au n cu))) HE2L.out hAg rfl rfl).drew)
          rw [HENT.out a4] at HI4
          obtain ⟨y0, y1, y2, y3, y4, y5, y6, y7⟩ := HI3.out.rf.free8 HE2Q.out hAg
          have z0 := HI3.out.rf.frozen HE2L.out hAg (q * 8)
          have z1 := HI3.out.rf.frozen HE2L.out hAg (q * 8 + 1)
          have z2 := HI3.out.rf.frozen HE2L.out hAg (q * 8 + 2)
          have z3 := HI3.out.rf.frozen HE2L.out hAg (q * 8 + 3)
          have z4 := HI3.out.rf.frozen HE2L.out hAg (q * 8 + 4)
          have z5 := HI3.out.rf.frozen HE2L.out hAg (q * 8 + 5)
          have z6 := HI3.out.rf.frozen HE2L.out hAg (q * 8 + 6)
          have z7 := HI3.out.rf.frozen HE2L.out hAg (q * 8 + 7)
          have x0 := HI3.out.rf.blk.cell 0
          have x1 := HI3.out.rf.blk.cell 1
          have q0 := HI3.out.box.cell 0
          have q1 := HI3.out.box.cell 1
          have q2 := HI3.out.box.cell 2
          have q3 := HI3.out.box.cell 3
          have q4 := HI3.out.box.cell 4
          have q5 := HI3.out.box.cell 5
          have hql := HE2L.out
          have hql' : (q : Int) < (E).length := by omega
          have hq0 : (0 : Int) ≤ q := by omega
          subst hAg
          go_region
          all_goals (go_wp2_with fail; go_ret2)
          all_goals refine ⟨by rw [HLL.out, HQ.out]; rfl, ?_, HI4.out.tur⟩
          all_goals exact ⟨(E).set q (some (v, a4), (.slice Au n cu)), by rw [HLL.out, HFE.out], _, _, by rw [HLL.out, HFS.out]; exact HI4.out.rf⟩
      · have hqE : q = L.length := by omega
        have hqe : ((q : Int) == (E.length : Int)) = true := by rw [beq_iff_eq]; omega
        have hqN := Lib.hid hqE
        clear hqE
        have HI := Lib.hid (HI0.out.drewN m)
        have x0 := HI0.out.rf.blk.cell 0
        have x1 := HI0.out.rf.blk.cell 1
        clear H5 H6 HT5 HU5 HB5
        go_upto_region 16 with (at_builtin; go_loud (refine wpl_app_slot rfl (.tmp 62) (.tmp 64) rfl 0 _ E.length (ents E) rfl (World.ownsRow.alloc HI.out.rf.own _) _ _ 1 (ents [e0]) rfl (lies_at _ zSlot _ 8 1 w5.heap.size rfl rfl) e0_one (by omega) (Nat.zero_le _) ?_; intro v1 w7 hown1 hg1; obtain ⟨A1, c1, hv1, _⟩ := Sl.of_own hown1; subst hv1; have hb1 : Blk w7 R 45 #[.slice A E.length c, .int .i64 st] := (hg1.1.block R (Blk.lt (Blk.alloc HI.out.rf.blk _)) (own_blk_ne HI.out.rf.own HI.out.rf.blk (by decide)).symm).trans (Blk.alloc HI.out.rf.blk _); have hc0 := hb1.cell 0; have hf0 := hb1.frozen 0))
        have HG := Lib.hid ((HI.out.below (bel_alloc _ (.cells zSlot 122))).grow (e := e0) (fun v f u hh => by cases congrArg Prod.fst hh) hown1 hg1)
        obtain ⟨w9, hw9⟩ : ∃ w9, w7.setCell ⟨R, 0, none⟩ (.slice A1 (E.length + 1) c1) = w9 := ⟨_, rfl⟩
        rw [hw9] at HG ⊢
        clear hw9 hb1 hc0 hf0 hg1 hown1 HI x0 x1 hqe HI0
        have hqE := hqN.out
        rw [show E.length = q by omega]
        obtain ⟨L1, hL1⟩ : ∃ L1, L ++ [none] = L1 := ⟨_, rfl⟩
        have HIN := Lib.hid (ins_eq (L := L) (L1 := L1) (st := st) (q := q) (M := M) (v := v) HQ.out hqle (.inr ⟨hqE, hL1.symm⟩) hM)
        obtain ⟨E1, hE1⟩ : ∃ E1, E ++ [e0] = E1 := ⟨_, rfl⟩
        have HE1 : Hid (E1.map Prod.fst = L1) := Lib.hid (by rw [← hE1, List.map_append, HLL.out, ← hL1]; rfl)
        have hML : E1.length = M := by rw [← hE1, List.length_append]; simp; omega
        have HE1Q : Hid (E1[q]? = some (none, .slice none 0 0)) := Lib.hid (by rw [← hE1, List.getElem?_append_right (by omega), hqE, hLl, Nat.sub_self]; rfl)
        obtain ⟨uq, huq⟩ : ∃ uq, (Value.slice none 0 0) = uq := ⟨_, rfl⟩
        rw [huq] at HE1Q
        rw [hE1] at HG
        have hqM : q < M := by omega
        have HI := HG
        clear hE1 hL1 HG huq hqE
        have x0 := HI.out.rf.blk.cell 0
        have x1 := HI.out.rf.blk.cell 1
        have x5 := HI.out.box.cell 5
        have f1 := HI.out.rf.blk.frozen 1
        have hz : v.sz = 30 + n := by show 30 + v.d.length = _; rw [HN.out]
        have HENT : Hid (∀ a : Nat, entV (some (v, a), (.slice Au n cu)) = [.bool true, .int .u64 v.r, .int .u64 v.a, .int .u64 v.b, .int .i64 p, .int .i64 s, (.slice Au n cu), .int .i64 a]) := Lib.hid (fun a => by simp only [entV, HPS.out.1, HPS.out.2])
        by_cases hc : st < v.sz + (4 + 4 * M)
        · have HFI := Lib.hid (HIN.out.2.2.1 hc)
          have htl : tot L1 + n ≤ 478 := by rw [HIN.out.2.1]; omega
          have hk1 : (st : Int) - (30 + (n : Int)) < 4 + 4 * (M : Int) := by omega
          rw [hML] at x0
          go_wp2_with fail
          go_quiet (fail)
          clear x5
          go_upto_region 19 with fail
          obtain ⟨w10, hw10⟩ : ∃ w10, (w9.drewN nq).setCell ⟨R, 1, none⟩ (.int .i64 512) = w10 := ⟨_, rfl⟩
          have HJ : Hid (RIn w w10 F b0 R E1 512 A1 c1 #[.int .u64 v.r, .int .u64 v.a, .int .u64 v.b, .int .i64 p, .int .i64 s, .slice Au n cu] (.slice Au n cu) v.d) := Lib.hid (by rw [← hw10]; exact (HI.out.drewN _).setSt 512)
          rw [hw10]
          clear hw10 x0 x1 f1
          have x0 := HJ.out.rf.blk.cell 0
          rw [hML] at x0
          go_wp2_with fail
          clear x0
          go_loopw [94] (fun i wr => ∃ k : Nat, k ≤ M ∧ i = .int .i64 k ∧ RIn w wr F b0 R (packE E1 k) (512 - tot (L1.take k)) A1 c1 #[.int .u64 v.r, .int .u64 v.a, .int .u64 v.b, .int .i64 p, .int .i64 s, .slice Au n cu] (.slice Au n cu) v.d) (fun i _ => M - (intOf i).toNat)
          case atStart => exact ⟨0, by omega, rfl, by rw [packE_zero]; simpa [tot] using HJ.out⟩
          case round =>
            obtain ⟨k, hk, rfl, hin⟩ := hrel
            have HK := Lib.hid hin
            have hPL : (packE E1 k).length = M := by rw [packE_len, hML]
            clear hin
            by_cases hlt : k < M
            · have hlt' : (k : Int) < M := by omega
              obtain ⟨⟨o, uu⟩, hek⟩ : ∃ e, (E1)[k]? = some e := ⟨_, List.getElem?_eq_getElem (by omega)⟩
              have hpk := packE_at hek
              have hkP : k < (packE E1 k).length := by rw [hPL]; exact hlt
              obtain ⟨g, cur, hAg, _, _, _, _⟩ := HK.out.rf.arr hkP
              have hLk : L1[k]? = some o := by rw [← HE1.out]; exact map_at hek
              have x0 := HK.out.rf.blk.cell 0
              have x1 := HK.out.rf.blk.cell 1
              have f1 := HK.out.rf.blk.frozen 1
              rw [hPL] at x0
              have hk0 : (0 : Int) ≤ k := by omega
              cases o with
              | none =>
                obtain ⟨y0, y1, y2, y3, y4, y5, y6, y7⟩ := HK.out.rf.free8 hpk hAg
                have HPE := Lib.hid (packE_none hek)
                have HTT : Hid (tot (L1.take (k + 1)) = tot (L1.take k)) := Lib.hid (by rw [tot_take_succ hLk]; rfl)
                subst hAg
                clear hek hpk hLk
                go_wp2_with fail
                go_roundw
                case rel => exact ⟨k + 1, by omega, by go_num, by rw [HPE.out, HTT.out]; exact HK.out.below (bel_alloc _ _)⟩
                case measure => simp [intOf]; omega
              | some x =>
                obtain ⟨xv, xf⟩ := x
                obtain ⟨y0, y1, y2, y3, y4, y5, y6, y7⟩ := HK.out.rf.full8 hpk hAg
                obtain ⟨Ax, cx, rfl, _⟩ := Sl.of_own (HK.out.rf.data k xv xf uu hpk).1
                have z7 := HK.out.rf.frozen hkP hAg (k * 8 + 7)
                have HPE := Lib.hid (packE_some hek)
                have htk : tot (L1.take (k + 1)) = tot (L1.take k) + (30 + xv.d.length) := tot_take_succ hLk
                have htk2 := tot_take_le L1 (k + 1)
                obtain ⟨a1, ha1⟩ : ∃ a1, 512 - tot (L1.take k) = a1 := ⟨_, rfl⟩
                obtain ⟨a2, ha2⟩ : ∃ a2, 512 - tot (L1.take (k + 1)) = a2 := ⟨_, rfl⟩
                have haa : (a1 : Int) - (30 + (xv.d.length : Int)) = a2 := by omega
                rw [HE1.out, ha2] at HPE
                rw [ha1] at HK x1
                have HA2 := Lib.hid ha2
                go_upto_region 22 with fail
                obtain ⟨w20, hw20⟩ : ∃ w20, wr.alloc (.cells #[.bool true, .int .u64 xv.r, .int .u64 xv.a, .int .u64 xv.b, .int .i64 ((xv.p : Int) - 1), .int .i64 ((xv.s : Int) - 1), .slice Ax xv.d.length cx, .int .i64 xf] 122) = w20 := ⟨_, rfl⟩
                obtain ⟨B9, hB9⟩ : ∃ B9, wr.heap.size = B9 := ⟨_, rfl⟩
                have hbx : Blk w20 B9 122 #[.bool true, .int .u64 xv.r, .int .u64 xv.a, .int .u64 xv.b, .int .i64 ((xv.p : Int) - 1), .int .i64 ((xv.s : Int) - 1), .slice Ax xv.d.length cx, .int .i64 xf] := by rw [← hw20, ← hB9]; exact Blk.new wr _ _
                have HK20 := Lib.hid (HK.out.below (bel_alloc wr (.cells #[.bool true, .int .u64 xv.r, .int .u64 xv.a, .int .u64 xv.b, .int .i64 ((xv.p : Int) - 1), .int .i64 ((xv.s : Int) - 1), .slice Ax xv.d.length cx, .int .i64 xf] 122)))
                have HNX := Lib.hid ((HK20.out.setSt a2).put (n := a2) hpk hAg)
                rw [← HPE.out] at HNX
                rw [hw20] at HK20 HNX ⊢
                rw [hB9]
                have b0' := hbx.cell 0
                have b6' := hbx.cell 6
                clear x0 x1 f1 y0 y1 y2 y3 y4 y5 y6 y7 hw20 hB9
                have x0 := HK20.out.rf.blk.cell 0
                have x1 := HK20.out.rf.blk.cell 1
                have f1 := HK20.out.rf.blk.frozen 1
                rw [hPL] at x0
                go_wp2_with fail
                go_region
                clear x0 x1 f1 b0' b6' hbx
                go_upto_region 24 with fail
                obtain ⟨w21, hw21⟩ : ∃ w21, w20.setCell ⟨R, 1, none⟩ (.int .i64 (a2 : Nat)) = w21 := ⟨_, rfl⟩
                have HK21 := Lib.hid (HK20.out.setSt a2)
                rw [hw21] at HK21 HNX ⊢
                clear hw21
                have x0 := HK21.out.rf.blk.cell 0
                have x1 := HK21.out.rf.blk.cell 1
                rw [hPL] at x0
                obtain ⟨y0, y1, y2, y3, y4, y5, y6, y7⟩ := HK21.out.rf.full8 hpk hAg
                have z7 := HK21.out.rf.frozen hkP hAg (k * 8 + 7)
                subst hAg
                clear hek hpk hLk ha2
                go_region
                go_wp2_with fail
                go_roundw
                case rel => exact ⟨k + 1, by omega, by go_num, by rw [HA2.out]; first | exact HNX.out.drewN _ | exact HNX.out.drew | exact HNX.out.drew.drew⟩
                case measure => simp [intOf]; omega
            · obtain rfl : k = M := by omega
              have hpm : (packE E1 k).map Prod.fst = packL L1 := by rw [← hML, packE_end, HE1.out]
              have HFE : Hid (((packE E1 k).set q (some (v, 512 - tot L1 - v.sz), (.slice Au n cu))).map Prod.fst = (insS L st v).1) := Lib.hid (by rw [HFI.out, ents_map_set, hpm, HIN.out.2.1])
              have HFS : Hid ((insS L st v).2 = 512 - tot L1 - v.sz) := Lib.hid (by rw [HFI.out, HIN.out.2.1])
              have HE2L : Hid (q < (packE E1 k).length) := Lib.hid (by rw [hPL]; omega)
              have HE2Q : Hid ((packE E1 k)[q]? = some (none, uq)) := Lib.hid (by rw [packE_get, HE1Q.out]; simp)
              have hlk : L1.length = k := HIN.out.1
              rw [← hlk, List.take_length] at HK
              rw [hlk] at HK
              have hat : ((512 - tot L1 : Nat) : Int) - (30 + (n : Int)) = ((512 - tot L1 - v.sz : Nat) : Int) := by omega
              obtain ⟨a3, ha3⟩ : ∃ a3, 512 - tot L1 = a3 := ⟨_, rfl⟩
              rw [ha3] at hat HK HFE HFS
              obtain ⟨a4, ha4⟩ : ∃ a4, a3 - v.sz = a4 := ⟨_, rfl⟩
              rw [ha4] at hat HFE HFS
              clear hpm hlk
              have x0 := HK.out.rf.blk.cell 0
              have x1 := HK.out.rf.blk.cell 1
              have f1 := HK.out.rf.blk.frozen 1
              go_upto_region 27 with fail
              clear x0 x1 f1
              obtain ⟨w12, hw12⟩ : ∃ w12, wr.setCell ⟨R, 1, none⟩ (.int .i64 (a4 : Nat)) = w12 := ⟨_, rfl⟩
              have HI3 : Hid (RIn w w12 F b0 R (packE E1 k) a4 A1 c1 #[.int .u64 v.r, .int .u64 v.a, .int .u64 v.b, .int .i64 p, .int .i64 s, .slice Au n cu] (.slice Au n cu) v.d) := Lib.hid (by rw [← hw12]; exact HK.out.setSt _)
              rw [hw12]
              clear hw12
              obtain ⟨g, cur, hAg, _, _, _, _⟩ := HI3.out.rf.arr HE2L.out
              have HAG := Lib.hid hAg
              have HI4 := Lib.hid ((HI3.out.putE (n := a4) (v := v) (e' := (some (v, a4), (.slice Au n cu))) HE2L.out hAg rfl rfl).drew)
              rw [HENT.out a4] at HI4
              obtain ⟨y0, y1, y2, y3, y4, y5, y6, y7⟩ := HI3.out.rf.free8 HE2Q.out hAg
              have z0 := HI3.out.rf.frozen HE2L.out hAg (q * 8)
              have z1 := HI3.out.rf.frozen HE2L.out hAg (q * 8 + 1)
              have z2 := HI3.out.rf.frozen HE2L.out hAg (q * 8 + 2)
              have z3 := HI3.out.rf.frozen HE2L.out hAg (q * 8 + 3)
              have z4 := HI3.out.rf.frozen HE2L.out hAg (q * 8 + 4)
              have z5 := HI3.out.rf.frozen HE2L.out hAg (q * 8 + 5)
              have z6 := HI3.out.rf.frozen HE2L.out hAg (q * 8 + 6)
              have z7 := HI3.out.rf.frozen HE2L.out hAg (q * 8 + 7)
              have x0 := HI3.out.rf.blk.cell 0
              have x1 := HI3.out.rf.blk.cell 1
              have q0 := HI3.out.box.cell 0
              have q1 := HI3.out.box.cell 1
              have q2 := HI3.out.box.cell 2
              have q3 := HI3.out.box.cell 3
              have q4 := HI3.out.box.cell 4
              have q5 := HI3.out.box.cell 5
              have hql := HE2L.out
              have hql' : (q : Int) < ((packE E1 k)).length := by omega
              have hq0 : (0 : Int) ≤ q := by omega
              subst hAg
              go_region
              all_goals (go_wp2_with fail; go_ret2)
              all_goals refine ⟨by rw [HLL.out, HQ.out]; rfl, ?_, HI4.out.tur⟩
              all_goals exact ⟨((packE E1 k)).set q (some (v, a4), (.slice Au n cu)), by rw [HLL.out, HFE.out], _, _, by rw [HLL.out, HFS.out]; exact HI4.out.rf⟩
        · have HFI := Lib.hid (HIN.out.2.2.2 hc)
          have hk1 : ¬ (st : Int) - (30 + (n : Int)) < 4 + 4 * (M : Int) := by omega
          have hat : (st : Int) - (30 + (n : Int)) = ((st - v.sz : Nat) : Int) := by omega
          have HFE : Hid (((E1).set q (some (v, st - v.sz), (.slice Au n cu))).map Prod.fst = (insS L st v).1) := Lib.hid (by rw [HFI.out, ents_map_set, HE1.out])
          have HFS : Hid ((insS L st v).2 = st - v.sz) := Lib.hid (by rw [HFI.out])
          have HE2L : Hid (q < (E1).length) := Lib.hid (by omega)
          have HE2Q := HE1Q
          obtain ⟨a4, ha4⟩ : ∃ a4, st - v.sz = a4 := ⟨_, rfl⟩
          rw [ha4] at hat HFE HFS
          rw [hML] at x0
          have HAT := Lib.hid hat
          clear hat
          go_wp2_with fail
          go_quiet (fail)
          go_upto_region 26 with fail
          clear x0 x1 x5 f1
          have hat := HAT.out
          have HI2 := Lib.hid (HI.out.drewN nq)
          have x0 := HI2.out.rf.blk.cell 0
          have x1 := HI2.out.rf.blk.cell 1
          have f1 := HI2.out.rf.blk.frozen 1
          go_upto_region 27 with fail
          clear x0 x1 f1
          obtain ⟨w12, hw12⟩ : ∃ w12, (w9.drewN nq).setCell ⟨R, 1, none⟩ (.int .i64 (a4 : Nat)) = w12 := ⟨_, rfl⟩
          have HI3 : Hid (RIn w w12 F b0 R E1 a4 A1 c1 #[.int .u64 v.r, .int .u64 v.a, .int .u64 v.b, .int .i64 p, .int .i64 s, .slice Au n cu] (.slice Au n cu) v.d) := Lib.hid (by rw [← hw12]; exact HI2.out.setSt _)
          rw [hw12]
          clear hw12
          obtain ⟨g, cur, hAg, _, _, _, _⟩ := HI3.out.rf.arr HE2L.out
          have HAG := Lib.hid hAg
          have HI4 := Lib.hid ((HI3.out.putE (n := a4) (v := v) (e' := (some (v, a4), (.slice Au n cu))) HE2L.out hAg rfl rfl).drew)
          rw [HENT.out a4] at HI4
          obtain ⟨y0, y1, y2, y3, y4, y5, y6, y7⟩ := HI3.out.rf.free8 HE2Q.out hAg
          have z0 := HI3.out.rf.frozen HE2L.out hAg (q * 8)
          have z1 := HI3.out.rf.frozen HE2L.out hAg (q * 8 + 1)
          have z2 := HI3.out.rf.frozen HE2L.out hAg (q * 8 + 2)
          have z3 := HI3.out.rf.frozen HE2L.out hAg (q * 8 + 3)
          have z4 := HI3.out.rf.frozen HE2L.out hAg (q * 8 + 4)
          have z5 := HI3.out.rf.frozen HE2L.out hAg (q * 8 + 5)
          have z6 := HI3.out.rf.frozen HE2L.out hAg (q * 8 + 6)
          have z7 := HI3.out.rf.frozen HE2L.out hAg (q * 8 + 7)
          have x0 := HI3.out.rf.blk.cell 0
          have x1 := HI3.out.rf.blk.cell 1
          have q0 := HI3.out.box.cell 0
          have q1 := HI3.out.box.cell 1
          have q2 := HI3.out.box.cell 2
          have q3 := HI3.out.box.cell 3
          have q4 := HI3.out.box.cell 4
          have q5 := HI3.out.box.cell 5
          have hql := HE2L.out
          have hql' : (q : Int) < (E1).length := by omega
          have hq0 : (0 : Int) ≤ q := by omega
          subst hAg
          go_region
          all_goals (go_wp2_with fail; go_ret2)
          all_goals refine ⟨by rw [HLL.out, HQ.out]; rfl, ?_, HI4.out.tur⟩
          all_goals exact ⟨(E1).set q (some (v, a4), (.slice Au n cu)), by rw [HLL.out, HFE.out], _, _, by rw [HLL.out, HFS.out]; exact HI4.out.rf⟩
end
end Go.Proofs.Ythghnhcopmmmpaa.Mem
/- The page and its reference side by side: one answer, one new state for both. -/
namespace Go.Proofs.Ythghnhcopmmmpaa.Mem
open Go.RowKit Go.Proofs.Ythghnhcopmmmpaa.Nums
set_option linter.unusedVariables false
set_option linter.unusedSimpArgs false
set_option maxRecDepth 100000
set_option maxHeartbeats 400000
theorem trim_ex : ∀ (n : Nat) (M : SL), M.length = n → ∃ k, IsTrim M k
  | 0, M, h => ⟨0, by omega, fun j h1 h2 => absurd h2 (by omega), fun h => absurd h (by omega)⟩
  | n + 1, M, h => by
    obtain ⟨o, ho⟩ : ∃ o, M[n]? = some o := ⟨_, List.getElem?_eq_getElem (by omega)⟩
    cases o with
    | some x => exact ⟨n + 1, by omega, fun j h1 h2 => absurd h2 (by omega), fun _ => ⟨x, ho⟩⟩
    | none =>
      obtain ⟨k, hk⟩ := trim_ex n (M.take n) (by rw [List.length_take]; omega)
      have hkl := hk.le
      rw [List.length_take] at hkl
      refine ⟨k, by omega, fun j h1 h2 => ?_, fun h0 => ?_⟩
      · by_cases hj : j = n
        · subst hj; exact ho
        · have := hk.free j h1 (by rw [List.length_take]; omega)
          rwa [List.getElem?_take, if_pos (by omega)] at this
      · obtain ⟨x, hx⟩ := hk.last h0
        rw [List.getElem?_take, if_pos (by omega)] at hx
        exact ⟨x, hx⟩
/-- what Stamp answers, and the slots behind it -/
def stampR (L : SL) (i : Int) (U : Nat) (p s : Int) : Int × SL :=
  if U ≤ 1099511627776 ∧ nxOk p s = true then (match atL L i with
    | none => (15, L)
    | some (v, f) => (0, L.set i.toNat (some (v.stamped U (p + 1).toNat (s + 1).toNat, f)))) else (3, L)
/-- .. Free's -/
def FreeTo (L : SL) (i : Int) (x : Int) (L' : SL) : Prop :=
  (atL L i = none ∧ x = 15 ∧ L' = L) ∨ (∃ v f k, atL L i = some (v, f) ∧ x = 0 ∧ IsTrim (L.set i.toNat none) k ∧ L' = (L.set i.toNat none).take k)
theorem free_ex (L : SL) (i : Int) : ∃ x L', FreeTo L i x L' := by
  cases h : atL L i with
  | none => exact ⟨15, L, .inl ⟨h, rfl, rfl⟩⟩
  | some y =>
    obtain ⟨k, hk⟩ := trim_ex _ (L.set i.toNat none) rfl
    exact ⟨0, _, .inr ⟨y.1, y.2, k, h, rfl, hk, rfl⟩⟩
def mkV (r a b : Nat) (p s : Int) (d : List UInt8) : Ver := ⟨r, a, b, (p + 1).toNat, (s + 1).toNat, d⟩
/-- .. Insert's -/
def insR (L : SL) (st : Nat) (r a b : Nat) (p s : Int) (d : List UInt8) : Int × Int × SL × Nat :=
  if tuOk r a b p s d.length = true then (if roomL L < (d.length : Int) then (0, 12, L, st) else ((nextL L : Int), 0, (insS L st (mkV r a b p s d)).1, (insS L st (mkV r a b p s d)).2)) else (0, 3, L, st)
theorem tuOk_nx {r a b : Nat} {p s : Int} {n : Nat} (h : tuOk r a b p s n = true) : r ≤ 1099511627776 ∧ a ≤ 1099511627776 ∧ b ≤ 1099511627776 ∧ nxOk p s = true ∧ n ≤ 200 := by
  unfold tuOk at h
  simp only [Bool.and_eq_true, decide_eq_true_eq] at h
  exact ⟨h.1.1.1.1, h.1.1.1.2, h.1.1.2, h.1.2, h.2⟩
theorem nx_to {p s : Int} (h : nxOk p s = true) : (((p + 1).toNat : Nat) : Int) - 1 = p ∧ (((s + 1).toNat : Nat) : Int) - 1 = s ∧ (p + 1).toNat ≤ 65536 ∧ (s + 1).toNat ≤ 65535 ∧ ((p + 1).toNat = 0 ↔ (s + 1).toNat = 0) := by
  unfold nxOk at h
  simp only [Bool.and_eq_true, Bool.or_eq_true, decide_eq_true_eq, beq_iff_eq] at h
  omega
theorem mkV_ok {r a b : Nat} {p s : Int} {d : List UInt8} (h : tuOk r a b p s d.length = true) : (mkV r a b p s d).ok ∧ ∀ u, tupV (mkV r a b p s d) u = .agg #[.int .u64 r, .int .u64 a, .int .u64 b, .int .i64 p, .int .i64 s, u] := by
  obtain ⟨h1, h2, h3, h4, h5⟩ := tuOk_nx h
  obtain ⟨k1, k2, k3, k4, k5⟩ := nx_to h4
  refine ⟨⟨h1, h2, h3, k3, k4, k5, h5⟩, fun u => ?_⟩
  unfold tupV mkV
  rw [k1, k2]
section
variable {w : World} {P R st c n c0 : Nat} {L : SL} {F : Nat → Prop} {E : List Ent} {A A0 : Option Addr}
theorem Hp.small (h : Hp w P L st) : L.length ≤ 127 ∧ st ≤ 512 ∧ ∀ (i : Nat) (v : Ver) (f : Nat), L[i]? = some (some (v, f)) → v.d.length ≤ 200 := by
  obtain ⟨X, _, hx⟩ := h
  have := hx.top
  have := hx.all
  exact ⟨by omega, hx.all, fun i v f hi => (hx.okv i v f hi).d⟩
theorem stampP (h : Hp w P L st) (i : Int) (U : Nat) (p s : Int) :
    Calls Try.prog 38 #[.pointer (some ⟨P, 0, none⟩), .int .i64 i, .int .u64 U, .agg #[.int .i64 p, .int .i64 s]] w fun e w' => e = .returned (.int .i64 (stampR L i U p s).1) ∧ Hp w' P (stampR L i U p s).2 st ∧ Only P w w' := by
  unfold stampR
  by_cases hg : U ≤ 1099511627776 ∧ nxOk p s = true
  · rw [if_pos hg]
    cases ha : atL L i with
    | none =>
      refine (stamp_none P L st i U p s w h ha hg.1 hg.2).mono ?_
      rintro e w' ⟨rfl, hb⟩
      exact ⟨rfl, h.below hb h.lt, Only.of_below hb⟩
    | some x =>
      obtain ⟨v, f⟩ := x
      obtain ⟨k1, k2, k3, k4, k5⟩ := nx_to hg.2
      exact stamp_has P L st i v f U _ _ p s w h ha hg.1 hg.2 (by omega) (by omega)
  · rw [if_neg hg]
    obtain ⟨X, hp, hx⟩ := h
    refine (stamp_form (some ⟨P, 0, none⟩) i U p s w P rfl hg).mono ?_
    rintro e w' ⟨rfl, hb⟩
    exact ⟨rfl, Hp.below ⟨X, hp, hx⟩ hb (Blk.lt hp.1), Only.of_below hb⟩
theorem stampF (h : RfA w F R E st A c) (hL : E.map Prod.fst = L) (i : Int) (U : Nat) (p s : Int) :
    Calls Try.prog 62 #[.pointer (some ⟨R, 0, none⟩), .int .i64 i, .int .u64 U, .agg #[.int .i64 p, .int .i64 s]] w fun e w' => e = .returned (.int .i64 (stampR L i U p s).1) ∧ (∃ E', E'.map Prod.fst = (stampR L i U p s).2 ∧ RfA w' F R E' st A c) ∧ Turn F w w' := by
  unfold stampR
  by_cases hg : U ≤ 1099511627776 ∧ nxOk p s = true
  · rw [if_pos hg]
    cases ha : atL L i with
    | none =>
      refine (rstamp_none h i U p s (by rw [hL]; exact ha) hg.1 hg.2).mono ?_
      rintro e w' ⟨rfl, hb⟩
      exact ⟨rfl, ⟨E, hL, h.below hb⟩, Turn.of_below hb⟩
    | some x =>
      obtain ⟨v, f⟩ := x
      obtain ⟨k1, k2, k3, k4, k5⟩ := nx_to hg.2
      obtain ⟨j, rfl, hj⟩ := atL_some ha
      rw [← hL, List.getElem?_map] at hj
      cases he : E[j]? with
      | none => rw [he] at hj; cases hj
      | some y =>
        obtain ⟨o, u⟩ := y
        rw [he] at hj
        injection hj with hj
        have hj' : o = some (v, f) := hj
        subst hj'
        refine (rstamp_some h j v f u U _ _ p s he hg.1 hg.2 (show p + 1 = ((p + 1).toNat : Int) by omega) (show s + 1 = ((s + 1).toNat : Int) by omega)).mono ?_
        rintro e w' ⟨rfl, hr, ht⟩
        refine ⟨rfl, ⟨_, ?_, hr⟩, ht⟩
        show _ = L.set j _
        rw [ents_map_set, hL]
  · rw [if_neg hg]
    refine (rstamp_form R i U p s w hg).mono ?_
    rintro e w' ⟨rfl, hb⟩
    exact ⟨rfl, ⟨E, hL, h.below hb⟩, Turn.of_below hb⟩
theorem freeP (h : Hp w P L st) (i x : Int) (L' : SL) (hf : FreeTo L i x L') :
    Calls Try.prog 35 #[.pointer (some ⟨P, 0, none⟩), .int .i64 i] w fun e w' => e = .returned (.int .i64 x) ∧ Hp w' P L' st ∧ Only P w w' := by
  rcases hf with ⟨h1, rfl, rfl⟩ | ⟨v, f, k, h1, rfl, h3, rfl⟩
  · refine (free_none P L' st i w h h1).mono ?_
    rintro e w' ⟨rfl, m, rfl⟩
    exact ⟨rfl, h.drewN m, (Only.refl P w).drewN m⟩
  · refine (free_has P L st i v f w h h1).mono ?_
    rintro e w' ⟨rfl, k', hk', hp, ho⟩
    obtain rfl := hk'.eq h3
    exact ⟨rfl, hp, ho⟩
theorem freeF (h : RfA w F R E st A c) (hL : E.map Prod.fst = L) (i x : Int) (L' : SL) (hf : FreeTo L i x L') :
    Calls Try.prog 63 #[.pointer (some ⟨R, 0, none⟩), .int .i64 i] w fun e w' => e = .returned (.int .i64 x) ∧ (∃ E', E'.map Prod.fst = L' ∧ RfA w' F R E' st A c) ∧ Turn F w w' := by
  rcases hf with ⟨h1, rfl, rfl⟩ | ⟨v, f, k, h1, rfl, h3, rfl⟩
  · refine (rfree_of _ i w (rget_none h i (by rw [hL]; exact h1))).mono ?_
    rintro e w' ⟨rfl, hb⟩
    exact ⟨rfl, ⟨E, hL, h.below hb⟩, Turn.of_below hb⟩
  · obtain ⟨j, rfl, hj⟩ := atL_some h1
    rw [← hL, List.getElem?_map] at hj
    cases he : E[j]? with
    | none => rw [he] at hj; cases hj
    | some y =>
      obtain ⟨o, u⟩ := y
      rw [he] at hj
      injection hj with hj
      have hj' : o = some (v, f) := hj
      subst hj'
      refine (rfree_some h j v f u he).mono ?_
      rintro e w' ⟨rfl, k', hk', hr, ht⟩
      rw [hL] at hk'
      have h3' : IsTrim (L.set j none) k := h3
      obtain rfl := hk'.eq h3'
      refine ⟨rfl, ⟨_, ?_, hr⟩, ht⟩
      show _ = (L.set j none).take k'
      rw [List.map_take, ents_map_set, hL]
theorem insP (h : Hp w P L st) (r a b : Nat) (p s : Int) (d : List UInt8) (hn : d.length = n) (hs : Sl w w.heap.size 1 A0 n c0 (u8s d)) :
    Calls Try.prog 34 #[.pointer (some ⟨P, 0, none⟩), .agg #[.int .u64 r, .int .u64 a, .int .u64 b, .int .i64 p, .int .i64 s, .slice A0 n c0]] w fun e w' => e = .returned (.tuple #[.int .i64 (insR L st r a b p s d).1, .int .i64 (insR L st r a b p s d).2.1]) ∧ Hp w' P (insR L st r a b p s d).2.2.1 (insR L st r a b p s d).2.2.2 ∧ Only P w w' := by
  subst hn
  unfold insR
  by_cases hg : tuOk r a b p s d.length = true
  · rw [if_pos hg]
    obtain ⟨hok, htv⟩ := mkV_ok hg
    rw [← htv]
    by_cases hr : roomL L < (d.length : Int)
    · rw [if_pos hr]
      refine (insert_has_full P _ c0 A0 (mkV r a b p s d) L st w h hok rfl hs hr).mono ?_
      rintro e w' ⟨rfl, hb⟩
      exact ⟨rfl, h.below hb h.lt, Only.of_below hb⟩
    · rw [if_neg hr]
      exact insert_has P _ c0 A0 (mkV r a b p s d) L st w h hok rfl hs (by omega)
  · rw [if_neg hg]
    refine (insert_form P r a b _ c0 p s A0 w (by simpa using hg)).mono ?_
    rintro e w' ⟨rfl, hb⟩
    exact ⟨rfl, h.below hb h.lt, Only.of_below hb⟩
theorem insF (h : RfA w F R E st A c) (hL : E.map Prod.fst = L) (hl : L.length ≤ 127) (hst : st ≤ 512) (hvs : ∀ (i : Nat) (v : Ver) (f : Nat), L[i]? = some (some (v, f)) → v.d.length ≤ 200) (r a b : Nat) (p s : Int) (d : List UInt8) (hn : d.length = n) (hs : Sl w w.heap.size 1 A0 n c0 (u8s d)) :
    Calls Try.prog 64 #[.pointer (some ⟨R, 0, none⟩), .agg #[.int .u64 r, .int .u64 a, .int .u64 b, .int .i64 p, .int .i64 s, .slice A0 n c0]] w fun e w' => e = .returned (.tuple #[.int .i64 (insR L st r a b p s d).1, .int .i64 (insR L st r a b p s d).2.1]) ∧ (∃ E' A' c', E'.map Prod.fst = (insR L st r a b p s d).2.2.1 ∧ RfA w' (fun g => F g ∨ (w.heap.size ≤ g ∧ g < w'.heap.size)) R E' (insR L st r a b p s d).2.2.2 A' c') ∧ Turn F w w' := by
  subst hn hL
  rw [List.length_map] at hl
  have keep : ∀ {w'}, Below w.heap.size w w' → RfA w' (fun g => F g ∨ (w.heap.size ≤ g ∧ g < w'.heap.size)) R E st A c := fun hb => (h.below hb).more (fun g hg => .inl hg) (fun g hg => hg.elim (fun k => Nat.lt_of_lt_of_le (h.lt g k) hb.size) (fun k => k.2))
  unfold insR
  by_cases hg : tuOk r a b p s d.length = true
  · rw [if_pos hg]
    obtain ⟨hok, htv⟩ := mkV_ok hg
    rw [← htv]
    by_cases hr : roomL (E.map Prod.fst) < (d.length : Int)
    · rw [if_pos hr]
      refine (rins_full h hl hvs (mkV r a b p s d) A0 c0 hok hs hr).mono ?_
      rintro e w' ⟨rfl, hb⟩
      exact ⟨rfl, ⟨E, A, c, rfl, keep hb⟩, Turn.of_below hb⟩
    · rw [if_neg hr]
      exact rins_ok h hl hst hvs (mkV r a b p s d) A0 c0 hok hs hr
  · rw [if_neg hg]
    refine (rins_form R r a b _ c0 p s A0 w (by simpa using hg)).mono ?_
    rintro e w' ⟨rfl, hb⟩
    exact ⟨rfl, ⟨E, A, c, rfl, keep hb⟩, Turn.of_below hb⟩
end
/-- the page at P and its reference at R, all their blocks newer than w's -/
def Duo (w wr : World) (P R : Nat) (L : SL) (st : Nat) : Prop :=
  Hp wr P L st ∧ (∃ F E A c, E.map Prod.fst = L ∧ RfA wr F R E st A c ∧ ¬ F P ∧ ∀ g, F g → w.heap.size ≤ g) ∧ w.heap.size ≤ P ∧ Below w.heap.size w wr
section
variable {w wr w' : World} {P R st : Nat} {L : SL}
theorem Duo.below (h : Duo w wr P R L st) (hb : Below wr.heap.size wr w') : Duo w w' P R L st := by
  obtain ⟨h1, ⟨F, E, A, c, h2, h3, h4, h5⟩, h6, h7⟩ := h
  exact ⟨h1.below hb h1.lt, ⟨F, E, A, c, h2, h3.below hb, h4, h5⟩, h6, h7.trans (hb.mono h7.size)⟩
theorem Duo.drewN (h : Duo w wr P R L st) (m : Nat) : Duo w (wr.drewN m) P R L st := h.below ⟨rfl, rfl, rfl, Nat.le_refl _, fun _ _ => rfl⟩
theorem Duo.drew (h : Duo w wr P R L st) : Duo w wr.drew P R L st := h.below ⟨rfl, rfl, rfl, Nat.le_refl _, fun _ _ => rfl⟩
/-- a block of bytes turned that is neither's -/
theorem Duo.other (h : Duo w wr P R L st) {g : Nat} (ho : Only g wr w') (hg : w.heap.size ≤ g) (hP : g ≠ P) (hF : ∀ F E A c, RfA wr F R E st A c → ¬ F P → (∀ g, F g → w.heap.size ≤ g) → ∃ F', RfA wr F' R E st A c ∧ ¬ F' P ∧ (∀ g, F' g → w.heap.size ≤ g) ∧ ¬ F' g) : Duo w w' P R L st := by
  obtain ⟨h1, ⟨F, E, A, c, h2, h3, h4, h5⟩, h6, h7⟩ := h
  obtain ⟨F', k1, k2, k3, k4⟩ := hF F E A c h3 h4 h5
  exact ⟨h1.only ho (Ne.symm hP), ⟨F', E, A, c, h2, k1.only ho k4, k2, k3⟩, h6, h7.trans (ho.below h7.size hg)⟩
end
end Go.Proofs.Ythghnhcopmmmpaa.Mem
/- heap.Heap: its pages, each as slots, and the rooms that it keeps of them; its calls that change nothing; the pool. -/
namespace Go.Proofs.Ythghnhcopmmmpaa.Hea
open Go.RowKit Go.Proofs.Ythghnhcopmmmpaa.Nums Go.Proofs.Ythghnhcopmmmpaa.Mem Go.Proofs.Ythghnhcopmmmpaa.Room
set_option linter.unusedVariables false
set_option linter.unusedSimpArgs false
set_option maxRecDepth 100000
set_option maxHeartbeats 1000000
/-- a page of a heap: its block, its slots, where its data begin -/
structure PgE where
  b : Nat
  L : SL
  st : Nat
def ptrs (l : List PgE) : List Value := l.map fun x => .pointer (some ⟨x.b, 0, none⟩)
def rooms (l : List PgE) : List Int := l.map fun x => roomL x.L
theorem ptrs_len (l : List PgE) : (ptrs l).length = l.length := by simp [ptrs]
theorem rooms_len (l : List PgE) : (rooms l).length = l.length := by simp [rooms]
theorem ptrs_at {l : List PgE} {i : Nat} {x : PgE} (h : l[i]? = some x) : (ptrs l)[i]? = some (.pointer (some ⟨x.b, 0, none⟩)) := by simp [ptrs, h]
theorem rooms_at {l : List PgE} {i : Nat} {x : PgE} (h : l[i]? = some x) : (rooms l)[i]? = some (roomL x.L) := by simp [rooms, h]
/-- block H is the heap of these pages, of the pool at PL; it keeps these rooms; F: all its blocks -/
structure HA (w : World) (F : Nat → Prop) (H PL : Nat) (l : List PgE) (Rs : List Int) (A : Option Addr) (c M : Nat) (Ar : Option Addr) (cr : Nat) : Prop where
  blk : Blk w H 139 #[.pointer (some ⟨PL, 0, none⟩), .slice A l.length c, .pointer (some ⟨M, 0, none⟩)]
  own : w.ownsRow 0 24 1 (.slice A l.length c) l.length (ptrs l)
  map : MapAt w 0 157 M Ar cr Rs
  pg : ∀ (i : Nat) (x : PgE), l[i]? = some x → Mem.Hp w x.b x.L x.st
  apart : ∀ (i j : Nat) (x y : PgE), l[i]? = some x → l[j]? = some y → i ≠ j → x.b ≠ y.b
  fH : F H
  fM : F M
  fA : ∀ g, (Value.slice A l.length c).ownBlock = some g → F g
  fR : ∀ g, (Value.slice Ar Rs.length cr).ownBlock = some g → F g
  fP : ∀ (i : Nat) (x : PgE), l[i]? = some x → F x.b
  lt : ∀ g, F g → g < w.heap.size
section
variable {w w' : World} {F : Nat → Prop} {H PL : Nat} {l : List PgE} {Rs : List Int} {A : Option Addr} {c M : Nat} {Ar : Option Addr} {cr : Nat}
theorem HA.keep (h : HA w F H PL l Rs A c M Ar cr) (hk : ∀ g, F g → w'.heap[g]? = w.heap[g]?) (hs : w.heap.size ≤ w'.heap.size) : HA w' F H PL l Rs A c M Ar cr :=
  ⟨(hk H h.fH).trans h.blk, own_keep h.own fun g hg => hk g (h.fA g hg), ⟨(hk M h.fM).trans h.map.blk, own_keep h.map.own fun g hg => hk g (h.fR g hg), h.map.ge⟩, fun i x hx => (h.pg i x hx).keep (hk _ (h.fP i x hx)), h.apart, h.fH, h.fM, h.fA, h.fR, h.fP, fun g hg => Nat.lt_of_lt_of_le (h.lt g hg) hs⟩
theorem HA.below (h : HA w F H PL l Rs A c M Ar cr) (hb : Below w.heap.size w w') : HA w' F H PL l Rs A c M Ar cr := h.keep (fun g hg => hb.block g (h.lt g hg)) hb.size
theorem HA.only {P : Nat} (h : HA w F H PL l Rs A c M Ar cr) (ho : Only P w w') (hP : ¬ F P) : HA w' F H PL l Rs A c M Ar cr := h.keep (fun g hg => ho.block g (h.lt g hg) (fun e => hP (e ▸ hg))) ho.size
theorem HA.turn {G : Nat → Prop} (h : HA w F H PL l Rs A c M Ar cr) (ho : Turn G w w') (hG : ∀ g, F g → ¬ G g) : HA w' F H PL l Rs A c M Ar cr := h.keep (fun g hg => ho.block g (h.lt g hg) (hG g hg)) ho.size
theorem HA.drew (h : HA w F H PL l Rs A c M Ar cr) : HA w.drew F H PL l Rs A c M Ar cr := h.keep (fun _ _ => rfl) (Nat.le_refl _)
theorem HA.drewN (h : HA w F H PL l Rs A c M Ar cr) (m : Nat) : HA (w.drewN m) F H PL l Rs A c M Ar cr := h.keep (fun _ _ => rfl) (Nat.le_refl _)
theorem HA.more {G : Nat → Prop} (h : HA w F H PL l Rs A c M Ar cr) (hG : ∀ g, F g → G g) (hl : ∀ g, G g → g < w.heap.size) : HA w G H PL l Rs A c M Ar cr :=
  ⟨h.blk, h.own, h.map, h.pg, h.apart, hG _ h.fH, hG _ h.fM, fun g hg => hG g (h.fA g hg), fun g hg => hG g (h.fR g hg), fun i x hx => hG _ (h.fP i x hx), hl⟩
theorem HA.le (h : HA w F H PL l Rs A c M Ar cr) : l.length ≤ c ∧ c ≤ maxLen := by
  obtain ⟨A', c', hv, hs⟩ := Sl.of_own h.own
  injection hv with h1 h2 h3
  subst h3
  exact ⟨hs.le, hs.cap⟩
theorem HA.arr (h : HA w F H PL l Rs A c M Ar cr) {i : Nat} {x : PgE} (hx : l[i]? = some x) : ∃ g, A = some ⟨g, 0, none⟩ ∧ w.cell? ⟨g, i, none⟩ = some (.pointer (some ⟨x.b, 0, none⟩)) := by
  have hi := (List.getElem?_eq_some_iff.1 hx).1
  rcases h.own.2 with ⟨h1, h2⟩ | ⟨g, cap, cur, hv, hb, hg, hn, hm, hs, ht⟩
  · exact absurd h2 (by omega)
  · injection hv with h1 h2 h3
    subst h1 h3
    refine ⟨g, rfl, ?_⟩
    have h2 := ptrs_at hx
    rw [← ht, List.getElem?_take, if_pos (by omega), Array.getElem?_toList] at h2
    rw [Blk.cell hg]
    exact h2
/-- which page is told -/
def pgV (l : List PgE) (n : Int) : Value := if n < 0 ∨ (l.length : Int) ≤ n then .pointer none else match l[n.toNat]? with | none => .pointer none | some x => .pointer (some ⟨x.b, 0, none⟩)
theorem pages_nil (w : World) : Calls Try.prog 58 #[.pointer none] w fun e w' => e = .returned (.int .i64 0) ∧ w = w' := by
  go_enter Try.func58, Try.ntmps58
  go_wp2_with fail
  go_ret
  exact ⟨rfl, rfl⟩
theorem pages_h (h : HA w F H PL l Rs A c M Ar cr) : Calls Try.prog 58 #[.pointer (some ⟨H, 0, none⟩)] w fun e w' => e = .returned (.int .i64 l.length) ∧ w = w' := by
  have x1 := h.blk.cell 1
  clear h
  go_enter Try.func58, Try.ntmps58
  go_wp2_with fail
  go_ret
  exact ⟨rfl, rfl⟩
theorem page_neg (P : Option Addr) (n : Int) (w : World) (h : n < 0) : Calls Try.prog 88 #[.pointer P, .int .i64 n] w fun e w' => e = .returned (.pointer none) ∧ w = w' := by
  go_enter Try.func88, Try.ntmps88
  go_wp2_with fail
  go_ret
  exact ⟨rfl, rfl⟩
theorem page_nil (n : Int) (w : World) : Calls Try.prog 88 #[.pointer none, .int .i64 n] w fun e w' => e = .returned (.pointer none) ∧ w = w' := by
  by_cases h : n < 0
  · exact page_neg none n w h
  · have h0 : (0 : Int) ≤ n := by omega
    go_enter Try.func88, Try.ntmps88
    go_wp2_with fail
    refine (pages_nil w).mono ?_
    rintro e w1 ⟨rfl, rfl⟩
    go_wp2_with fail
    go_ret
    exact ⟨rfl, rfl⟩
theorem page_h (h : HA w F H PL l Rs A c M Ar cr) (n : Int) : Calls Try.prog 88 #[.pointer (some ⟨H, 0, none⟩), .int .i64 n] w fun e w' => e = .returned (pgV l n) ∧ w = w' := by
  by_cases h0 : n < 0
  · have hv : pgV l n = .pointer none := if_pos (.inl h0)
    rw [hv]
    exact page_neg _ n w h0
  · have CP := Lib.hid (pages_h h)
    by_cases h1 : (l.length : Int) ≤ n
    · have hv : Hid (pgV l n = .pointer none) := Lib.hid (if_pos (.inr h1))
      clear h
      go_enter Try.func88, Try.ntmps88
      go_wp2_with fail
      refine CP.out.mono ?_
      rintro e w1 ⟨rfl, rfl⟩
      go_wp2_with fail
      go_ret
      exact ⟨by rw [hv.out]; rfl, rfl⟩
    · obtain ⟨i, rfl⟩ : ∃ i : Nat, n = i := ⟨n.toNat, by omega⟩
      obtain ⟨x, hx⟩ : ∃ x, l[i]? = some x := ⟨_, List.getElem?_eq_getElem (by omega)⟩
      have hv : Hid (pgV l i = .pointer (some ⟨x.b, 0, none⟩)) := Lib.hid (by unfold pgV; rw [if_neg (by omega), Int.toNat_natCast, hx])
      obtain ⟨g, rfl, y0⟩ := h.arr hx
      have x1 := h.blk.cell 1
      have hle := h.le
      unfold maxLen at hle
      have hi : (i : Int) < l.length := by omega
      clear h hx h0
      go_enter Try.func88, Try.ntmps88
      go_wp2_with fail
      refine CP.out.mono ?_
      rintro e w1 ⟨rfl, rfl⟩
      go_wp2_with fail
      go_ret
      exact ⟨by rw [hv.out]; rfl, rfl⟩
end
/-- the pool -/
def Pool (w : World) (PL : Nat) (k : Nat) : Prop := Blk w PL 134 #[.int .i64 k]
theorem left_nil (w : World) : Calls Try.prog 43 #[.pointer none] w fun e w' => e = .returned (.int .i64 0) ∧ w = w' := by
  go_enter Try.func43, Try.ntmps43
  go_wp2_with fail
  go_ret
  exact ⟨rfl, rfl⟩
theorem left_any {w : World} {PL k : Nat} (h : Pool w PL k) : Calls Try.prog 43 #[.pointer (some ⟨PL, 0, none⟩)] w fun e w' => e = .returned (.int .i64 k) ∧ w = w' := by
  have x0 := Blk.cell h 0
  clear h
  go_enter Try.func43, Try.ntmps43
  go_wp2_with fail
  go_ret
  exact ⟨rfl, rfl⟩
theorem take_none {w : World} {PL : Nat} (h : Pool w PL 0) : Calls Try.prog 101 #[.pointer (some ⟨PL, 0, none⟩)] w fun e w' => e = .returned (.bool false) ∧ w = w' := by
  have CL := Lib.hid (left_any h)
  clear h
  go_enter Try.func101, Try.ntmps101
  go_wp2_with fail
  refine CL.out.mono ?_
  rintro e w1 ⟨rfl, rfl⟩
  go_wp2_with fail
  go_ret
  exact ⟨rfl, rfl⟩
theorem take_one {w : World} {PL k : Nat} (h : Pool w PL (k + 1)) (hk : k ≤ 1000) : Calls Try.prog 101 #[.pointer (some ⟨PL, 0, none⟩)] w fun e w' => e = .returned (.bool true) ∧ Pool w' PL k ∧ Only PL w w' := by
  obtain ⟨K, hK⟩ : ∃ K : Nat, k + 1 = K := ⟨_, rfl⟩
  have HK := Lib.hid hK
  have HP := Lib.hid h
  rw [hK] at h
  have CL := Lib.hid (left_any h)
  have x0 := Blk.cell h 0
  have f0 := Blk.frozen h 0
  have hK0 : ((K : Int) == 0) = false := by rw [beq_eq_false_iff_ne]; omega
  have hK1 : (K : Int) ≤ 1001 := by omega
  have hK2 : (0 : Int) ≤ (K : Int) - 1 := by omega
  have HS : Hid (Pool (w.setCell ⟨PL, 0, none⟩ (.int .i64 ((K : Int) - 1))) PL k) := Lib.hid (by
    have := Blk.set_ h 0 (.int .i64 ((K : Int) - 1))
    have e : (K : Int) - 1 = k := by omega
    rw [e] at this ⊢
    exact this)
  clear h hK
  go_enter Try.func101, Try.ntmps101
  go_wp2_with fail
  refine CL.out.mono ?_
  rintro e w1 ⟨rfl, rfl⟩
  go_wp2_with fail
  go_ret
  exact ⟨rfl, HS.out, (Only.refl PL w).set_ _ _⟩
theorem pool_new (k : Nat) (hk : k ≤ 256) (w : World) : Calls Try.prog 42 #[.int .i64 k] w fun e w' => e = .returned (.tuple #[.pointer (some ⟨w.heap.size, 0, none⟩), .int .i64 0]) ∧ Pool w' w.heap.size k ∧ Below w.heap.size w w' := by
  have hk' : (k : Int) ≤ 256 := by omega
  have HN : Hid (Pool (w.alloc (.cells #[.int .i64 k] 134)) w.heap.size k) := Lib.hid (Blk.new w _ _)
  go_enter Try.func42, Try.ntmps42
  go_wp2_with fail
  go_ret2
  exact ⟨rfl, HN.out, bel_alloc _ _⟩
end Go.Proofs.Ythghnhcopmmmpaa.Hea
/- heap.New, add; how a heap turns. -/
namespace Go.Proofs.Ythghnhcopmmmpaa.Hea
open Go.RowKit Go.Proofs.Ythghnhcopmmmpaa.Nums Go.Proofs.Ythghnhcopmmmpaa.Mem Go.Proofs.Ythghnhcopmmmpaa.Room
set_option linter.unusedVariables false
set_option linter.unusedSimpArgs false
set_option maxRecDepth 100000
set_option maxHeartbeats 1000000
section
variable {w w' : World} {F : Nat → Prop} {H PL : Nat} {l : List PgE} {Rs : List Int} {A : Option Addr} {c M : Nat} {Ar : Option Addr} {cr : Nat}
theorem HA.turnPage (h : HA w F H PL l Rs A c M Ar cr) {i : Nat} {x : PgE} (hi : l[i]? = some x) (ho : Only x.b w w') {L' : SL} {st' : Nat} (hp : Mem.Hp w' x.b L' st') : HA w' F H PL (l.set i ⟨x.b, L', st'⟩) Rs A c M Ar cr := by
  obtain ⟨X, hX, _⟩ := h.pg i x hi
  have hpl : ptrs (l.set i ⟨x.b, L', st'⟩) = ptrs l := by
    unfold ptrs
    rw [List.map_set]
    apply List.ext_getElem?
    intro j
    rw [List.getElem?_set]
    by_cases e : i = j
    · subst e
      have hl := (List.getElem?_eq_some_iff.1 hi).1
      rw [if_pos rfl, if_pos (by simpa using hl), List.getElem?_map, hi]
      rfl
    · rw [if_neg e]
  have hxb := hX.1
  have nH : H ≠ x.b := Blk.ne_ h.blk hxb (by decide)
  have nM : M ≠ x.b := Blk.ne_ h.map.blk hxb (by decide)
  have get : ∀ (j : Nat) (y : PgE), (l.set i ⟨x.b, L', st'⟩)[j]? = some y → (j = i ∧ y = ⟨x.b, L', st'⟩) ∨ (j ≠ i ∧ l[j]? = some y) := by
    intro j y hj
    rw [List.getElem?_set] at hj
    by_cases e : i = j
    · rw [if_pos e] at hj
      split at hj
      · injection hj with hj; exact .inl ⟨e.symm, hj.symm⟩
      · cases hj
    · rw [if_neg e] at hj; exact .inr ⟨Ne.symm e, hj⟩
  refine ⟨?_, ?_, ⟨ho.blk h.map.blk nM, own_keep h.map.own fun g hg => ho.block g (h.map.own.lt g hg).2 (fun e => own_blk_ne h.map.own hxb (by decide) (by rw [hg, e])), h.map.ge⟩, fun j y hj => ?_, fun j k y z hj hk hne => ?_, h.fH, h.fM, ?_, h.fR, fun j y hj => ?_, fun g hg => Nat.lt_of_lt_of_le (h.lt g hg) ho.size⟩
  · rw [List.length_set]; exact ho.blk h.blk nH
  · rw [List.length_set, hpl]; exact own_keep h.own fun g hg => ho.block g (h.own.lt g hg).2 (fun e => own_blk_ne h.own hxb (by decide) (by rw [hg, e]))
  · rcases get j y hj with ⟨rfl, rfl⟩ | ⟨hne, hj⟩
    · exact hp
    · exact (h.pg j y hj).only ho (h.apart j i y x hj hi hne)
  · rcases get j y hj with ⟨rfl, rfl⟩ | ⟨h1, hj2⟩
    · rcases get k z hk with ⟨rfl, rfl⟩ | ⟨h2, hk2⟩
      · exact absurd rfl hne
      · exact h.apart j k x z hi hk2 hne
    · rcases get k z hk with ⟨rfl, rfl⟩ | ⟨h2, hk2⟩
      · exact h.apart j k y x hj2 hi hne
      · exact h.apart j k y z hj2 hk2 hne
  · rw [List.length_set]; exact h.fA
  · rcases get j y hj with ⟨rfl, rfl⟩ | ⟨h1, hj⟩
    · exact h.fP j x hi
    · exact h.fP j y hj
theorem far_turn {v v' : Value} (hf : Far w w' M v v') (hM : F M) (hv : ∀ g, v.ownBlock = some g → F g) : Turn F w w' := ⟨hf.os, hf.tape, hf.output, hf.size, fun k hk hn => hf.block k hk (fun e => hn (e ▸ hM)) (fun e => hn (hv k e))⟩
theorem HA.rooms (h : HA w F H PL l Rs A c M Ar cr) {Rs' : List Int} {Ar' : Option Addr} {cr' : Nat} (hm : MapAt w' 0 157 M Ar' cr' Rs') (hf : Far w w' M (.slice Ar Rs.length cr) (.slice Ar' Rs'.length cr')) :
    HA w' (fun g => F g ∨ (w.heap.size ≤ g ∧ g < w'.heap.size)) H PL l Rs' A c M Ar' cr' := by
  have nR : ∀ {g : Nat} {t : TypeId} {cs : Array Value}, Blk w g t cs → 3 ≠ t → (Value.slice Ar Rs.length cr).ownBlock ≠ some g := fun hb ht => own_blk_ne h.map.own hb ht
  refine ⟨hf.blk h.blk (Blk.ne_ h.blk h.map.blk (by decide)) (nR h.blk (by decide)), ?_, hm, fun i x hx => ?_, h.apart, .inl h.fH, .inl h.fM, fun g hg => .inl (h.fA g hg), fun g hg => ?_, fun i x hx => .inl (h.fP i x hx), fun g hg => ?_⟩
  · refine hf.own h.own (own_blk_ne h.own h.map.blk (by decide)) fun g hg => ?_
    intro hv
    rcases h.own.2 with ⟨q1, _⟩ | ⟨g', cap, cur, q1, _, q3, _⟩
    · rw [q1] at hg; simp [Value.ownBlock] at hg
    · rw [q1] at hg
      have : g' = g := by simpa [Value.ownBlock] using hg
      subst this
      exact nR q3 (by decide) hv
  · obtain ⟨X, hX, hx2⟩ := h.pg i x hx
    exact ⟨X, ⟨hf.blk hX.1 (Blk.ne_ hX.1 h.map.blk (by decide)) (nR hX.1 (by decide)), hX.2⟩, hx2⟩
  · rcases hf.lies with e | ⟨g', e, hg'⟩
    · left
      refine h.fR g ?_
      rw [← e]
      exact hg
    · right
      rw [hg] at e
      injection e with e
      subst e
      exact ⟨hg', (hm.own.lt g hg).2⟩
  · rcases hg with hg | hg
    · exact Nat.lt_of_lt_of_le (h.lt g hg) hf.size
    · exact hg.2
/-- one page more -/
theorem HA.grow (h : HA w F H PL l Rs A c M Ar cr) {A' : Option Addr} {c' : Nat} {x : PgE} (hx : Mem.Hp w x.b x.L x.st) (hxF : F x.b) (hnew : ∀ (i : Nat) (y : PgE), l[i]? = some y → y.b ≠ x.b)
    (hown : w'.ownsRow 0 24 1 (.slice A' (l.length + 1) c') (l.length + 1) (ptrs l ++ ptrs [x])) (hk : Kin w w' (.slice A l.length c) (.slice A' (l.length + 1) c')) :
    HA (w'.setCell ⟨H, 1, none⟩ (.slice A' (l.length + 1) c')) (fun g => F g ∨ (w.heap.size ≤ g ∧ g < w'.heap.size)) H PL (l ++ [x]) Rs A' c' M Ar cr := by
  have ho : Only H w' (w'.setCell ⟨H, 1, none⟩ (.slice A' (l.length + 1) c')) := (Only.refl H w').set_ _ _
  have nA : ∀ {g : Nat} {t : TypeId} {cs : Array Value}, Blk w g t cs → 24 ≠ t → (Value.slice A l.length c).ownBlock ≠ some g := fun hb ht => own_blk_ne h.own hb ht
  have hbH : Blk w' H 139 #[.pointer (some ⟨PL, 0, none⟩), .slice A l.length c, .pointer (some ⟨M, 0, none⟩)] := (hk.1.block H h.blk.lt (nA h.blk (by decide)).symm).trans h.blk
  have hl : (l ++ [x]).length = l.length + 1 := by simp
  have kb : ∀ {g : Nat} {t : TypeId} {cs : Array Value}, Blk w g t cs → 24 ≠ t → g ≠ H → Blk (w'.setCell ⟨H, 1, none⟩ (.slice A' (l.length + 1) c')) g t cs := fun {g t cs} hb ht hne => ho.blk ((hk.1.block g hb.lt (nA hb ht).symm).trans hb) hne
  have kp : ∀ {y : PgE}, Mem.Hp w y.b y.L y.st → Mem.Hp (w'.setCell ⟨H, 1, none⟩ (.slice A' (l.length + 1) c')) y.b y.L y.st := fun {y} hy => by
    obtain ⟨X, hX, hx2⟩ := hy
    exact ⟨X, ⟨kb hX.1 (by decide) (Blk.ne_ hX.1 h.blk (by decide)), hX.2⟩, hx2⟩
  have get : ∀ (j : Nat) (y : PgE), (l ++ [x])[j]? = some y → (j = l.length ∧ y = x) ∨ l[j]? = some y := by
    intro j y hj
    by_cases e : j < l.length
    · rw [List.getElem?_append_left e] at hj; exact .inr hj
    · rw [List.getElem?_append_right (by omega)] at hj
      cases hq : j - l.length with
      | zero => rw [hq] at hj; simp at hj; exact .inl ⟨by omega, hj.symm⟩
      | succ k => rw [hq] at hj; simp at hj
  have hs := hk.1.size
  refine ⟨?_, ?_, ⟨kb h.map.blk (by decide) (Blk.ne_ h.map.blk h.blk (by decide)), ?_, h.map.ge⟩, fun j y hj => ?_, fun j k y z hj hk2 hne => ?_, .inl h.fH, .inl h.fM, ?_, fun g hg => .inl (h.fR g hg), fun j y hj => ?_, fun g hg => ?_⟩
  · rw [hl]; exact Blk.set_ hbH 1 _
  · rw [hl]
    have e : ptrs (l ++ [x]) = ptrs l ++ ptrs [x] := by simp [ptrs]
    rw [e]
    exact own_keep hown fun g hg => ho.block g (hown.lt g hg).2 (fun e => own_blk_ne hown hbH (by decide) (by rw [hg, e]))
  · refine own_keep h.map.own fun g hg => ?_
    have hgl := (h.map.own.lt g hg).2
    rw [ho.block g (Nat.lt_of_lt_of_le hgl hs) (fun e => own_blk_ne h.map.own h.blk (by decide) (by rw [hg, e]))]
    refine hk.1.block g hgl fun hv => ?_
    rcases h.map.own.2 with ⟨q1, _⟩ | ⟨g', cap, cur, q1, _, q3, _⟩
    · rw [q1] at hg; simp [Value.ownBlock] at hg
    · rw [q1] at hg
      have : g' = g := by simpa [Value.ownBlock] using hg
      subst this
      exact nA q3 (by decide) hv.symm
  · rcases get j y hj with ⟨_, rfl⟩ | hj
    · exact kp hx
    · exact kp (h.pg j y hj)
  · rcases get j y hj with ⟨rfl, rfl⟩ | hj2
    · rcases get k z hk2 with ⟨rfl, rfl⟩ | hk3
      · exact absurd rfl hne
      · exact (hnew k z hk3).symm
    · rcases get k z hk2 with ⟨rfl, rfl⟩ | hk3
      · exact hnew j y hj2
      · exact h.apart j k y z hj2 hk3 hne
  · rw [hl]
    intro g hg
    rcases hk.2 with h1 | ⟨g', h1, h2⟩
    · left
      refine h.fA g ?_
      rw [← h1, hg]
    · right
      rw [hg] at h1
      injection h1 with h1
      subst h1
      exact ⟨h2, (hown.lt g hg).2⟩
  · rcases get j y hj with ⟨_, rfl⟩ | hj
    · exact .inl hxF
    · exact .inl (h.fP j y hj)
  · rcases hg with hg | hg
    · exact Nat.lt_of_lt_of_le (Nat.lt_of_lt_of_le (h.lt g hg) hs) ho.size
    · exact Nat.lt_of_lt_of_le hg.2 ho.size
end
theorem new_h (PL : Nat) (w : World) : Calls Try.prog 44 #[.pointer (some ⟨PL, 0, none⟩)] w fun e w' => ∃ H M, e = .returned (.pointer (some ⟨H, 0, none⟩)) ∧ HA w' (fun g => w.heap.size ≤ g ∧ g < w'.heap.size) H PL [] [] none 0 M none 0 ∧ Below w.heap.size w w' := by
  obtain ⟨W1, hW1⟩ : ∃ W1, w.alloc (.cells #[.slice none 0 0] 157) = W1 := ⟨_, rfl⟩
  have HW1 := Lib.hid hW1
  have C := Lib.hid (Room.new_any w)
  go_enter Try.func44, Try.ntmps44
  go_wp2_with fail
  refine C.out.mono ?_
  rintro e w1 ⟨rfl, hw1⟩
  rw [HW1.out] at hw1
  subst hw1
  go_wp2_with fail
  go_ret
  have hm : MapAt w1 0 157 w.heap.size none 0 [] := by
    have := map_new w 157
    rw [HW1.out] at this
    exact ⟨this.blk, World.ownsRow_nil _ _ _ _, Nat.zero_le _⟩
  have hb1 : Below w.heap.size w w1 := by rw [← HW1.out]; exact bel_alloc _ _
  have hlt : w.heap.size < w1.heap.size := Blk.lt hm.blk
  refine ⟨w1.heap.size, w.heap.size, rfl, ⟨Blk.new w1 _ _, World.ownsRow_nil _ _ _ _, ⟨Blk.alloc hm.blk _, World.ownsRow_nil _ _ _ _, Nat.zero_le _⟩, fun i x hx => by simp at hx, fun i j x y hx => by simp at hx, ⟨by omega, by rw [size_alloc]; omega⟩, ⟨by omega, by rw [size_alloc]; omega⟩, fun g hg => by simp [Value.ownBlock] at hg, fun g hg => by simp [Value.ownBlock] at hg, fun i x hx => by simp at hx, fun g hg => hg.2⟩, bel_trans hb1 (bel_alloc _ _)⟩
theorem infoPg : (Try.prog.info? 24).map (fun i => (i.zero, i.size, i.bytes)) = some (some (.pointer none), 1, 8) := by kernel_rfl
theorem wpl_app_p {w : World} {ops : Array Oper} {rest : List Oper} {o : Oper} {a : Act} {Q : Exit → Act → World → Prop} (hgd : o.guard = none) (s x : Operand)
    (ho : o.op = .call { callee := .builtin .append, args := #[s, x], argTypes := #[137, 137] })
    (base : Nat) (v : Value) (n : Nat) (xs : List Value) (hs : a.eval s = v) (hown : w.ownsRow base 24 1 v n xs)
    (B : Nat) (y : Value) (m : Nat) (news : List Value) (hy : a.eval x = y) (hx : Lies w B 1 y m news) (h1 : ∀ u ∈ news, u.oneCell' = true)
    (hbytes : n + m ≤ 1000000) (hbase : base ≤ w.heap.size)
    (h : ∀ v' w', w'.ownsRow base 24 1 v' (n + m) (xs ++ news) → Kin w w' v v' → wpList Try.prog ops Q rest (a.put o.dst v') w') : wpList Try.prog ops Q (o :: rest) a w := by
  obtain ⟨i, hi, hz0, hz1, hz2⟩ := info_part infoPg
  exact wpList_plain hgd fun _ hK => wp_append_mem w s x _ ho base 24 i _ 1 8 Try.underlying137 hi hz0 hz1 hz2 rfl (by omega) v n xs hs hown B y m news hy hx h1 (by unfold maxLen; omega) (by omega) hbase fun v' w' h2 h3 => hK _ _ (h v' w' h2 h3)
section
variable {w w' : World} {F : Nat → Prop} {H PL : Nat} {l : List PgE} {Rs : List Int} {A : Option Addr} {c M : Nat} {Ar : Option Addr} {cr : Nat}
theorem add_none (h : HA w F H PL l Rs A c M Ar cr) (hp : Pool w PL 0) (P : Option Addr) : Calls Try.prog 93 #[.pointer (some ⟨H, 0, none⟩), .pointer P] w fun e w' => e = .returned (.bool false) ∧ w = w' := by
  have x0 := h.blk.cell 0
  have CT := Lib.hid (take_none hp)
  clear h hp
  go_enter Try.func93, Try.ntmps93
  go_wp2_with fail
  refine CT.out.mono ?_
  rintro e w1 ⟨rfl, rfl⟩
  go_wp2_with fail
  go_ret
  exact ⟨rfl, rfl⟩
theorem add_one (h : HA w F H PL l Rs A c M Ar cr) {k : Nat} (hp : Pool w PL (k + 1)) (hk : k ≤ 1000) (hPL : ¬ F PL) (hl : l.length ≤ 1000) {x : PgE} (hx : Mem.Hp w x.b x.L x.st) (hxF : F x.b) (hnew : ∀ (i : Nat) (y : PgE), l[i]? = some y → y.b ≠ x.b) :
    Calls Try.prog 93 #[.pointer (some ⟨H, 0, none⟩), .pointer (some ⟨x.b, 0, none⟩)] w fun e w' => ∃ A' c', e = .returned (.bool true) ∧ HA w' (fun g => F g ∨ (w.heap.size ≤ g ∧ g < w'.heap.size)) H PL (l ++ [x]) Rs A' c' M Ar cr ∧ Pool w' PL k ∧ Turn (fun g => F g ∨ g = PL) w w' := by
  have x0 := h.blk.cell 0
  have CT := Lib.hid (take_one hp hk)
  have HH := Lib.hid h
  have HX := Lib.hid hx
  have HN := Lib.hid hnew
  have HF := Lib.hid (And.intro hPL hxF)
  clear h hp hx hnew hPL hxF
  go_enter Try.func93, Try.ntmps93
  go_wp2_with fail
  refine CT.out.mono ?_
  rintro e w1 ⟨rfl, hp1, ho1⟩
  have HP1 := Lib.hid hp1
  have HO1 := Lib.hid ho1
  have H1 := Lib.hid (HH.out.only ho1 HF.out.1)
  have HX1 := Lib.hid (HX.out.only ho1 (fun e => HF.out.1 (e ▸ HF.out.2)))
  clear hp1 ho1 x0
  have x1 := H1.out.blk.cell 1
  go_wp2_with (at_builtin; go_loud (refine wpl_app_p rfl (.tmp 15) (.tmp 17) rfl 0 _ l.length (ptrs l) rfl (World.ownsRow.alloc H1.out.own _) _ _ 1 (ptrs [x]) rfl (lies_at _ #[.pointer (some ⟨x.b, 0, none⟩)] _ 1 1 w1.heap.size rfl rfl) (fun u hu => by simp [ptrs] at hu; subst hu; rfl) (by omega) (Nat.zero_le _) ?_; intro v1 w7 hown1 hg1; obtain ⟨A1, c1, hv1, _⟩ := Sl.of_own hown1; subst hv1; have hb1 : Blk w7 H 139 #[.pointer (some ⟨PL, 0, none⟩), .slice A l.length c, .pointer (some ⟨M, 0, none⟩)] := (hg1.1.block H (Blk.lt (Blk.alloc H1.out.blk _)) (own_blk_ne H1.out.own H1.out.blk (by decide)).symm).trans (Blk.alloc H1.out.blk _); have hc0 := hb1.cell 1; have hf0 := hb1.frozen 1))
  go_ret
  have hb2 := bel_alloc w1 (.cells #[.pointer (some ⟨x.b, 0, none⟩)] 24)
  have hG := (H1.out.below hb2).grow (HX1.out.below hb2 HX1.out.lt) HF.out.2 HN.out hown1 hg1
  have hsz := HO1.out.size
  have hs2 := hb2.size
  have hs7 := hg1.1.size
  have hPLlt : PL < w1.heap.size := Blk.lt HP1.out
  have hPLH : PL ≠ H := Blk.ne_ HP1.out H1.out.blk (by decide)
  have hoH : Only H w7 (w7.setCell ⟨H, 1, none⟩ (.slice A1 (l.length + 1) c1)) := (Only.refl H w7).set_ _ _
  have hss := hoH.size
  refine ⟨A1, c1, rfl, hG.more (fun g hg => ?_) (fun g hg => ?_), ?_, ?_⟩
  · rcases hg with hg | hg
    · exact .inl hg
    · exact .inr ⟨by omega, by omega⟩
  · rcases hg with hg | hg
    · have := HH.out.lt g hg; omega
    · exact hg.2
  · refine hoH.blk ?_ hPLH
    exact (hg1.1.block PL (by omega) (own_blk_ne H1.out.own HP1.out (by decide)).symm).trans (Blk.alloc HP1.out _)
  · refine ⟨hoH.os.trans (hg1.1.os.trans (hb2.os.trans HO1.out.os)), hoH.tape.trans (hg1.1.tape.trans (hb2.tape.trans HO1.out.tape)), hoH.output.trans (hg1.1.output.trans (hb2.output.trans HO1.out.output)), by omega, fun k hk hn => ?_⟩
    have n1 : k ≠ PL := fun e => hn (.inr e)
    have n2 : ¬ F k := fun e => hn (.inl e)
    rw [hoH.block k (by omega) (fun e => n2 (e ▸ HH.out.fH)), hg1.1.block k (by omega) (fun e => n2 (HH.out.fA k e.symm)), hb2.block k (by omega), HO1.out.block k hk n1]
end
end Go.Proofs.Ythghnhcopmmmpaa.Hea
/- heap.Insert. -/
namespace Go.Proofs.Ythghnhcopmmmpaa.Hea
open Go.RowKit Go.Proofs.Ythghnhcopmmmpaa.Nums Go.Proofs.Ythghnhcopmmmpaa.Mem Go.Proofs.Ythghnhcopmmmpaa.Room
set_option linter.unusedVariables false
set_option linter.unusedSimpArgs false
set_option maxRecDepth 100000
set_option maxHeartbeats 4000000
theorem ins_ret {w : World} {T : Nat} {v0 v1 q : Value} {tmps : Array Value} (h : Blk w T 30 #[v0, v1]) (h4 : tmps.getD 4 undef = .pointer (some ⟨T, 0, none⟩)) (h5 : tmps.getD 5 undef = q) :
    (results Try.f51 tmps).run Try.prog w = .ok (.tuple #[.agg #[v0, v1], q]) w := by
  have x0 := h.cell 0
  have x1 := h.cell 1
  have g4 : tmps[4]?.getD undef = .pointer (some ⟨T, 0, none⟩) := by simpa using h4
  have g5 : tmps[5]?.getD undef = q := by simpa using h5
  simp [results, Try.results51, go_sem, g4, g5, x0, x1]
theorem findAt_true {m : Int} : ∀ {L : List Int} {k : Nat}, (findAt m L k).2 = true → ∃ i : Nat, (findAt m L k).1 = ((k + i : Nat) : Int) ∧ ∃ r, L[i]? = some r ∧ m ≤ r
  | [], k, h => by cases h
  | r :: L, k, h => by
    unfold findAt at h ⊢
    by_cases hr : m ≤ r
    · rw [if_pos hr]
      exact ⟨0, rfl, r, rfl, hr⟩
    · rw [if_neg hr] at h ⊢
      obtain ⟨i, h1, x, h2, h3⟩ := findAt_true h
      exact ⟨i + 1, by rw [h1]; push_cast; omega, x, by simpa using h2, h3⟩
theorem findR_some {l : List PgE} {need : Int} (h : (findR (rooms l) need).2 = true) : ∃ (i : Nat) (x : PgE), (findR (rooms l) need).1 = (i : Int) ∧ l[i]? = some x ∧ max need 0 ≤ roomL x.L := by
  obtain ⟨i, h1, r, h2, h3⟩ := findAt_true h
  unfold rooms at h2
  rw [List.getElem?_map] at h2
  cases hx : l[i]? with
  | none => rw [hx] at h2; cases h2
  | some x =>
    rw [hx] at h2
    injection h2 with h2
    exact ⟨i, x, by unfold findR; rw [h1]; push_cast; omega, hx, by rw [← h2] at h3; exact h3⟩
theorem roomL_clamp (L : SL) : clamp (roomL L) = roomL L := by unfold clamp roomL; omega
theorem set_rooms {l : List PgE} {i : Nat} {x : PgE} (hi : l[i]? = some x) (hl : l.length ≤ 256) (b : Nat) (L' : SL) (st' : Nat) : setR (rooms l) i (roomL L') = (0, rooms (l.set i ⟨b, L', st'⟩)) := by
  have h := (List.getElem?_eq_some_iff.1 hi).1
  unfold setR
  rw [rooms_len, if_neg (by omega), if_neg (by omega), if_neg (by omega), Int.toNat_natCast, roomL_clamp]
  congr 1
  unfold rooms
  rw [List.map_set]
theorem set_rooms_new {l : List PgE} (hl : l.length < 256) (b : Nat) (L' : SL) (st' : Nat) : setR (rooms l) l.length (roomL L') = (0, rooms (l ++ [⟨b, L', st'⟩])) := by
  unfold setR
  rw [rooms_len, if_neg (by omega), if_neg (by omega), if_pos rfl, roomL_clamp]
  congr 1
  unfold rooms
  rw [List.map_append]
  rfl
/-- what Insert makes of a heap and its pool: place, error, pages, what the pool has left -/
def InsTo (l : List PgE) (k r a b : Nat) (p s : Int) (d : List UInt8) (pg sl er : Int) (l' : List PgE) (k' : Nat) : Prop :=
  ((findR (rooms l) d.length).2 = true ∧ k' = k ∧ ∃ (i : Nat) (x : PgE), (findR (rooms l) d.length).1 = (i : Int) ∧ l[i]? = some x ∧ er = (insR x.L x.st r a b p s d).2.1 ∧
      l' = l.set i ⟨x.b, (insR x.L x.st r a b p s d).2.2.1, (insR x.L x.st r a b p s d).2.2.2⟩ ∧ ((er = 0 ∧ pg = i ∧ sl = (insR x.L x.st r a b p s d).1) ∨ (er ≠ 0 ∧ pg = 0 ∧ sl = 0))) ∨
  ((findR (rooms l) d.length).2 = false ∧ (((insR [] 512 r a b p s d).2.1 ≠ 0 ∧ er = (insR [] 512 r a b p s d).2.1 ∧ pg = 0 ∧ sl = 0 ∧ l' = l ∧ k' = k) ∨
    ((insR [] 512 r a b p s d).2.1 = 0 ∧ k = 0 ∧ er = 12 ∧ pg = 0 ∧ sl = 0 ∧ l' = l ∧ k' = 0) ∨
    ((insR [] 512 r a b p s d).2.1 = 0 ∧ k = k' + 1 ∧ er = 0 ∧ pg = l.length ∧ sl = (insR [] 512 r a b p s d).1 ∧ ∃ nb, l' = l ++ [⟨nb, (insR [] 512 r a b p s d).2.2.1, (insR [] 512 r a b p s d).2.2.2⟩])))
theorem insR_fail {L : SL} {st r a b : Nat} {p s : Int} {d : List UInt8} (h : (insR L st r a b p s d).2.1 ≠ 0) : (insR L st r a b p s d).2.2 = (L, st) := by
  unfold insR at h ⊢
  split at h
  · rename_i h1
    rw [if_pos h1]
    split at h
    · rename_i h2; rw [if_pos h2]
    · exact absurd rfl h
  · rename_i h1; rw [if_neg h1]
/-- what is left behind -/
def InsPost (w : World) (F : Nat → Prop) (H PL : Nat) (l : List PgE) (k r a b : Nat) (p s : Int) (d : List UInt8) (e : Ending) (w' : World) : Prop :=
  ∃ (pg sl er : Int) (l' : List PgE) (k' : Nat) (A' : Option Addr) (c' M' : Nat) (Ar' : Option Addr) (cr' : Nat), e = .returned (.tuple #[.agg #[.int .i64 pg, .int .i64 sl], .int .i64 er]) ∧ InsTo l k r a b p s d pg sl er l' k' ∧
    HA w' (fun g => F g ∨ (w.heap.size ≤ g ∧ g < w'.heap.size)) H PL l' (rooms l') A' c' M' Ar' cr' ∧ Pool w' PL k' ∧ Turn (fun g => F g ∨ g = PL) w w'
section
variable {w : World} {F : Nat → Prop} {H PL : Nat} {l : List PgE} {A A0 : Option Addr} {c M n c0 : Nat} {Ar : Option Addr} {cr : Nat}
theorem ins_found (h : HA w F H PL l (rooms l) A c M Ar cr) {k : Nat} (hp : Pool w PL k) (hPL : ¬ F PL) (hlk : l.length + k ≤ 256) (r a b : Nat) (p s : Int) (d : List UInt8) (hn : d.length = n) (hs : Sl w w.heap.size 1 A0 n c0 (u8s d)) (hfb : (findR (rooms l) n).2 = true) :
    Calls Try.prog 51 #[.pointer (some ⟨H, 0, none⟩), .agg #[.int .u64 r, .int .u64 a, .int .u64 b, .int .i64 p, .int .i64 s, .slice A0 n c0]] w fun e w' => InsPost w F H PL l k r a b p s d e w' := by
  obtain ⟨T0, hT0⟩ : ∃ T0, w.heap.size = T0 := ⟨_, rfl⟩
  obtain ⟨T1, hT1⟩ : ∃ T1, T0 + 1 = T1 := ⟨_, rfl⟩
  obtain ⟨W1, hW1⟩ : ∃ W1, w.alloc (.cells #[.int .u64 r, .int .u64 a, .int .u64 b, .int .i64 p, .int .i64 s, .slice A0 n c0] 33) = W1 := ⟨_, rfl⟩
  obtain ⟨W0, hW0⟩ : ∃ W0, W1.alloc (.cells #[.int .i64 0, .int .i64 0] 30) = W0 := ⟨_, rfl⟩
  have hs1 : W1.heap.size = T1 := by rw [← hW1, size_alloc, hT0, hT1]
  have hb0 : Below w.heap.size w W0 := by rw [← hW0]; exact bel_trans (by rw [← hW1]; exact bel_alloc _ _) (bel_alloc _ _)
  have hbT : Blk W0 T0 33 #[.int .u64 r, .int .u64 a, .int .u64 b, .int .i64 p, .int .i64 s, .slice A0 n c0] := by rw [← hW0]; exact Blk.alloc (by rw [← hW1, ← hT0]; exact Blk.new w _ _) _
  have hbR : Blk W0 T1 30 #[.int .i64 0, .int .i64 0] := by rw [← hW0, ← hs1]; exact Blk.new W1 _ _
  have HH := Lib.hid (h.below hb0)
  have HP := Lib.hid (Blk.below hp hb0 (Blk.lt hp))
  have HS := Lib.hid (hs.on hb0)
  have HBT := Lib.hid hbT
  have HBR := Lib.hid hbR
  have HB0 := Lib.hid hb0
  have HFL : Hid (∀ g, F g → g < T0) := Lib.hid (by rw [← hT0]; exact h.lt)
  have HPLL : Hid (PL < T0) := Lib.hid (by rw [← hT0]; exact Blk.lt hp)
  have HLK := Lib.hid (And.intro hlk hPL)
  have HWS := Lib.hid (And.intro hW1 (And.intro hW0 hT0))
  have HNN := Lib.hid hn
  obtain ⟨i, x, hfi, hx, hrm⟩ := findR_some hfb
  have HFI := Lib.hid (And.intro hfb hfi)
  have HXI := Lib.hid hx
  clear hfb hfi hx hrm
  have HT1 := Lib.hid hT1
  have hm2 := hbT.cell 5
  have hM2 := HH.out.blk.cell 2
  clear h hp hs hbT hbR hb0 hlk hPL hW1 hW0 hT0 hs1 hn hT1
  go_enter Try.func51, Try.ntmps51
  go_upto_region 3 with fail
  rw [HWS.out.1, HWS.out.2.1, HWS.out.2.2, HT1.out]
  go_region_held3 (fun w' => w'.cell? ⟨H, 2, none⟩ = some (.pointer (some ⟨M, 0, none⟩)) ∧ w'.cell? ⟨T0, 5, none⟩ = some (.slice A0 n c0)) (first | go_keep | exact ⟨hM2, hm2⟩)
    (first | (go_at_call 92; refine (Room.find_any HH.out.drew.map n).mono ?_; rintro e w2 ⟨rfl, rfl⟩))
  clear hm2 hM2
  obtain ⟨w3, hw3⟩ : ∃ w3, W0.drew = w3 := ⟨_, rfl⟩
  have H3 : Hid (HA w3 F H PL l (rooms l) A c M Ar cr) := Lib.hid (by rw [← hw3]; exact HH.out.drew)
  have P3 : Hid (Pool w3 PL k) := Lib.hid (by rw [← hw3]; exact HP.out)
  have S3 : Hid (Sl w3 w3.heap.size 1 A0 n c0 (u8s d)) := Lib.hid (by rw [← hw3]; exact HS.out.on ⟨rfl, rfl, rfl, Nat.le_refl _, fun _ _ => rfl⟩)
  have T3 : Hid (Blk w3 T0 33 #[.int .u64 r, .int .u64 a, .int .u64 b, .int .i64 p, .int .i64 s, .slice A0 n c0]) := Lib.hid (by rw [← hw3]; exact HBT.out)
  have R3 : Hid (Blk w3 T1 30 #[.int .i64 0, .int .i64 0]) := Lib.hid (by rw [← hw3]; exact HBR.out)
  have B3 : Hid (Below w.heap.size w w3) := Lib.hid (by rw [← hw3]; exact ⟨HB0.out.os, HB0.out.tape, HB0.out.output, HB0.out.size, HB0.out.block⟩)
  rw [hw3]
  clear hw3 HH HP HS HBT HBR HB0
  rw [HFI.out.1, HFI.out.2]
  have hpv : pgV l (i : Int) = .pointer (some ⟨x.b, 0, none⟩) := by
    have hl := (List.getElem?_eq_some_iff.1 HXI.out).1
    unfold pgV
    rw [if_neg (by omega), Int.toNat_natCast, HXI.out]
  have CP := Lib.hid (page_h H3.out i)
  rw [hpv] at CP
  clear hpv
  go_wp2_with fail
  refine CP.out.mono ?_
  rintro e w4 ⟨rfl, rfl⟩
  have T5 := Lib.hid T3.out
  have t0 := T5.out.cell 0
  have t1 := T5.out.cell 1
  have t2 := T5.out.cell 2
  have t3 := T5.out.cell 3
  have t4 := T5.out.cell 4
  have t5 := T5.out.cell 5
  go_upto_region 7 with fail
  obtain ⟨y, hy⟩ : ∃ y, insR x.L x.st r a b p s d = y := ⟨_, rfl⟩
  obtain ⟨sl, er, L', st'⟩ := y
  have HY := Lib.hid hy
  have CI := Lib.hid (insP (H3.out.pg i x HXI.out) r a b p s d HNN.out S3.out)
  rw [hy] at CI
  clear hy
  go_wp2_with fail
  refine CI.out.mono ?_
  rintro e w5 ⟨rfl, hp5, ho5⟩
  clear t0 t1 t2 t3 t4 t5 T5
  have hxF := H3.out.fP i x HXI.out
  have H5 := Lib.hid (H3.out.turnPage HXI.out ho5 hp5)
  have hFx := HFL.out x.b hxF
  have hT1 := HT1.out
  have R5 := Lib.hid (ho5.blk R3.out (by omega))
  have P5 := Lib.hid (ho5.blk P3.out (fun e => HLK.out.2 (by rw [e]; exact hxF)))
  have HO5 := Lib.hid ho5
  have HXF := Lib.hid hxF
  have HP5 := Lib.hid hp5
  clear hp5 ho5 hxF hFx hT1
  by_cases her : er = 0
  · subst her
    have x2 := H5.out.blk.cell 2
    have HSR := Lib.hid (set_rooms HXI.out (by have := HLK.out.1; omega) x.b L' st')
    have hl256 : (rooms l).length ≤ 256 := by rw [rooms_len]; have := HLK.out.1; omega
    have KF : Hid (∀ w0 w7 v7, Far w0 w7 M (.slice Ar (rooms l).length cr) v7 → HA w0 F H PL (l.set i ⟨x.b, L', st'⟩) (rooms l) A c M Ar cr → w7.cell? ⟨H, 2, none⟩ = some (.pointer (some ⟨M, 0, none⟩))) := Lib.hid (fun w0 w7 v7 hf h0 => (hf.blk h0.blk (Blk.ne_ h0.blk h0.map.blk (by decide)) (own_blk_ne h0.map.own h0.blk (by decide))).cell 2)
    go_upto_region 12 with fail
    go_region_held3 (fun w' => w'.cell? ⟨H, 2, none⟩ = some (.pointer (some ⟨M, 0, none⟩))) (first | exact KF.out _ _ _ hf7 (H5.out.drewN _) | go_keep | exact x2)
      (first
        | (go_at_call 21; refine (room_has x.b L' st' _ (show Mem.Hp w5.drew x.b L' st' from HP5.out)).mono ?_; rintro e w6 ⟨rfl, m6, rfl⟩)
        | (go_at_call 90; refine (Room.set_any (H5.out.drewN _).map hl256 (Nat.zero_le _) _ _).mono ?_; rintro e w7 ⟨rfl, Ar7, cr7, hm7, hf7⟩))
    have hT1 := HT1.out
    have hT1F : ¬ F T1 := fun hg => by have := HFL.out T1 hg; omega
    have h5d := H5.out.drewN (1 + m6)
    rw [HSR.out] at hm7 hf7
    have H7 := Lib.hid (h5d.rooms hm7 hf7)
    have ht7 := Lib.hid (far_turn hf7 h5d.fM h5d.fR)
    have R7 : Hid (Blk w7 T1 30 #[.int .i64 0, .int .i64 0]) := Lib.hid (hf7.blk (show Blk (w5.drewN (1 + m6)) _ _ _ from R5.out) (fun e => hT1F (e ▸ h5d.fM)) (fun e => hT1F (h5d.fR _ e)))
    have P7 : Hid (Pool w7 PL k) := Lib.hid (hf7.blk (show Blk (w5.drewN (1 + m6)) _ _ _ from P5.out) (fun e => HLK.out.2 (e ▸ h5d.fM)) (fun e => HLK.out.2 (h5d.fR _ e)))
    clear hm7 hf7 h5d x2 hT1 hT1F
    have r0 := R7.out.cell 0
    have r1 := R7.out.cell 1
    have q0 := R7.out.frozen 0
    have q1 := R7.out.frozen 1
    go_wp2_with fail
    have hRf := Blk.set_ (Blk.set_ R7.out 0 (.int .i64 i)) 1 (.int .i64 sl)
    have hOf : Only T1 w7 ((w7.setCell ⟨T1, 0, none⟩ (.int .i64 i)).setCell ⟨T1, 1, none⟩ (.int .i64 sl)) := ((Only.refl T1 w7).set_ 0 _).set_ 1 _
    refine bodyPost_ret (ins_ret hRf rfl rfl) rfl ?_
    have hT1 := HT1.out
    have hT0 := HWS.out.2.2
    have hT1F : ¬ F T1 := fun hg => by have := HFL.out T1 hg; omega
    have hsz5 := HO5.out.size
    have hsz3 := B3.out.size
    have hs7 : w5.heap.size ≤ w7.heap.size := ht7.out.size
    have hR3 := Blk.lt R3.out
    have hss := hOf.size
    have hPT : PL ≠ T1 := by have := HPLL.out; omega
    have hY := HY.out
    refine ⟨i, sl, 0, l.set i ⟨x.b, L', st'⟩, k, A, c, M, Ar7, cr7, rfl, .inl ⟨by rw [HNN.out]; exact HFI.out.1, rfl, i, x, by rw [HNN.out]; exact HFI.out.2, HXI.out, by rw [hY], by rw [hY], .inl ⟨rfl, rfl, by rw [hY]⟩⟩, ?_, hOf.blk P7.out hPT, ?_⟩
    · refine HA.more (HA.keep H7.out (fun g hg => hOf.block g (H7.out.lt g hg) ?_) hOf.size) (fun g hg => ?_) (fun g hg => ?_)
      · rintro rfl
        rcases hg with hg | hg
        · exact hT1F hg
        · have : w5.heap.size ≤ g := hg.1
          omega
      · rcases hg with hg | hg
        · exact .inl hg
        · have : w5.heap.size ≤ g := hg.1
          exact .inr ⟨by omega, by omega⟩
      · rcases hg with hg | hg
        · have := HFL.out g hg; omega
        · exact hg.2
    · have h1 : Turn (fun g => F g ∨ g = PL) w w3 := ⟨B3.out.os, B3.out.tape, B3.out.output, B3.out.size, fun q hq _ => B3.out.block q hq⟩
      refine ⟨hOf.os.trans (ht7.out.os.trans (HO5.out.os.trans B3.out.os)), hOf.tape.trans (ht7.out.tape.trans (HO5.out.tape.trans B3.out.tape)), hOf.output.trans (ht7.out.output.trans (HO5.out.output.trans B3.out.output)), by omega, fun q hq hn => ?_⟩
      have nF : ¬ F q := fun e => hn (.inl e)
      rw [hOf.block q (by omega) (by omega), ht7.out.block q (by show q < w5.heap.size; omega) nF]
      show w5.heap[q]? = _
      rw [HO5.out.block q (by omega) (fun e => nF (e ▸ HXF.out)), B3.out.block q hq]
  · have hne : (er == 0) = false := beq_eq_false_iff_ne.2 her
    have HNE := Lib.hid her
    clear her
    have r0 := R5.out.cell 0
    have r1 := R5.out.cell 1
    have q0 := R5.out.frozen 0
    have q1 := R5.out.frozen 1
    go_wp2_with fail
    have hRf := Blk.set_ (Blk.set_ R5.out 0 (.int .i64 0)) 1 (.int .i64 0)
    have hOf : Only T1 w5 ((w5.setCell ⟨T1, 0, none⟩ (.int .i64 0)).setCell ⟨T1, 1, none⟩ (.int .i64 0)) := ((Only.refl T1 w5).set_ 0 _).set_ 1 _
    refine bodyPost_ret (ins_ret hRf rfl rfl) rfl ?_
    have hT1 := HT1.out
    have hT0 := HWS.out.2.2
    have hT1F : ¬ F T1 := fun hg => by have := HFL.out T1 hg; omega
    have hsz5 := HO5.out.size
    have hsz3 := B3.out.size
    have hss := hOf.size
    have hPT : PL ≠ T1 := by have := HPLL.out; omega
    have hY := HY.out
    have hfx := insR_fail (L := x.L) (st := x.st) (r := r) (a := a) (b := b) (p := p) (s := s) (d := d) (by rw [hY]; exact HNE.out)
    rw [hY] at hfx
    injection hfx with e1 e2
    have hrl : rooms (l.set i ⟨x.b, L', st'⟩) = rooms l := by
      have e1' : L' = x.L := e1
      rw [e1']
      unfold rooms
      rw [List.map_set]
      apply List.ext_getElem?
      intro j
      rw [List.getElem?_set]
      by_cases e : i = j
      · subst e
        have hl := (List.getElem?_eq_some_iff.1 HXI.out).1
        rw [if_pos rfl, if_pos (by simpa using hl), List.getElem?_map, HXI.out]
        rfl
      · rw [if_neg e]
    refine ⟨0, 0, er, l.set i ⟨x.b, L', st'⟩, k, A, c, M, Ar, cr, rfl, .inl ⟨by rw [HNN.out]; exact HFI.out.1, rfl, i, x, by rw [HNN.out]; exact HFI.out.2, HXI.out, by rw [hY], by rw [hY], .inr ⟨HNE.out, rfl, rfl⟩⟩, (by rw [hrl]; exact (H5.out.only hOf hT1F).more (fun g hg => .inl hg) (fun g hg => hg.elim (fun k => by have := HFL.out g k; omega) (fun k => k.2))), hOf.blk P5.out hPT, ?_⟩
    refine ⟨hOf.os.trans (HO5.out.os.trans B3.out.os), hOf.tape.trans (HO5.out.tape.trans B3.out.tape), hOf.output.trans (HO5.out.output.trans B3.out.output), by omega, fun q hq hn => ?_⟩
    have nF : ¬ F q := fun e => hn (.inl e)
    rw [hOf.block q (by omega) (by omega), HO5.out.block q (by omega) (fun e => nF (e ▸ HXF.out)), B3.out.block q hq]
theorem ins_new (h : HA w F H PL l (rooms l) A c M Ar cr) {k : Nat} (hp : Pool w PL k) (hPL : ¬ F PL) (hlk : l.length + k ≤ 256) (r a b : Nat) (p s : Int) (d : List UInt8) (hn : d.length = n) (hs : Sl w w.heap.size 1 A0 n c0 (u8s d)) (hfb : (findR (rooms l) n).2 = false) :
    Calls Try.prog 51 #[.pointer (some ⟨H, 0, none⟩), .agg #[.int .u64 r, .int .u64 a, .int .u64 b, .int .i64 p, .int .i64 s, .slice A0 n c0]] w fun e w' => InsPost w F H PL l k r a b p s d e w' := by
  obtain ⟨T0, hT0⟩ : ∃ T0, w.heap.size = T0 := ⟨_, rfl⟩
  obtain ⟨T1, hT1⟩ : ∃ T1, T0 + 1 = T1 := ⟨_, rfl⟩
  obtain ⟨W1, hW1⟩ : ∃ W1, w.alloc (.cells #[.int .u64 r, .int .u64 a, .int .u64 b, .int .i64 p, .int .i64 s, .slice A0 n c0] 33) = W1 := ⟨_, rfl⟩
  obtain ⟨W0, hW0⟩ : ∃ W0, W1.alloc (.cells #[.int .i64 0, .int .i64 0] 30) = W0 := ⟨_, rfl⟩
  have hs1 : W1.heap.size = T1 := by rw [← hW1, size_alloc, hT0, hT1]
  have hb0 : Below w.heap.size w W0 := by rw [← hW0]; exact bel_trans (by rw [← hW1]; exact bel_alloc _ _) (bel_alloc _ _)
  have hbT : Blk W0 T0 33 #[.int .u64 r, .int .u64 a, .int .u64 b, .int .i64 p, .int .i64 s, .slice A0 n c0] := by rw [← hW0]; exact Blk.alloc (by rw [← hW1, ← hT0]; exact Blk.new w _ _) _
  have hbR : Blk W0 T1 30 #[.int .i64 0, .int .i64 0] := by rw [← hW0, ← hs1]; exact Blk.new W1 _ _
  have HH := Lib.hid (h.below hb0)
  have HP := Lib.hid (Blk.below hp hb0 (Blk.lt hp))
  have HS := Lib.hid (hs.on hb0)
  have HBT := Lib.hid hbT
  have HBR := Lib.hid hbR
  have HB0 := Lib.hid hb0
  have HFL : Hid (∀ g, F g → g < T0) := Lib.hid (by rw [← hT0]; exact h.lt)
  have HPLL : Hid (PL < T0) := Lib.hid (by rw [← hT0]; exact Blk.lt hp)
  have HLK := Lib.hid (And.intro hlk hPL)
  have HWS := Lib.hid (And.intro hW1 (And.intro hW0 hT0))
  have HNN := Lib.hid hn
  have HFB := Lib.hid hfb
  clear hfb
  have HT1 := Lib.hid hT1
  have hm2 := hbT.cell 5
  have hM2 := HH.out.blk.cell 2
  clear h hp hs hbT hbR hb0 hlk hPL hW1 hW0 hT0 hs1 hn hT1
  go_enter Try.func51, Try.ntmps51
  go_upto_region 3 with fail
  rw [HWS.out.1, HWS.out.2.1, HWS.out.2.2, HT1.out]
  go_region_held3 (fun w' => w'.cell? ⟨H, 2, none⟩ = some (.pointer (some ⟨M, 0, none⟩)) ∧ w'.cell? ⟨T0, 5, none⟩ = some (.slice A0 n c0)) (first | go_keep | exact ⟨hM2, hm2⟩)
    (first | (go_at_call 92; refine (Room.find_any HH.out.drew.map n).mono ?_; rintro e w2 ⟨rfl, rfl⟩))
  clear hm2 hM2
  obtain ⟨w3, hw3⟩ : ∃ w3, W0.drew = w3 := ⟨_, rfl⟩
  have H3 : Hid (HA w3 F H PL l (rooms l) A c M Ar cr) := Lib.hid (by rw [← hw3]; exact HH.out.drew)
  have P3 : Hid (Pool w3 PL k) := Lib.hid (by rw [← hw3]; exact HP.out)
  have S3 : Hid (Sl w3 w3.heap.size 1 A0 n c0 (u8s d)) := Lib.hid (by rw [← hw3]; exact HS.out.on ⟨rfl, rfl, rfl, Nat.le_refl _, fun _ _ => rfl⟩)
  have T3 : Hid (Blk w3 T0 33 #[.int .u64 r, .int .u64 a, .int .u64 b, .int .i64 p, .int .i64 s, .slice A0 n c0]) := Lib.hid (by rw [← hw3]; exact HBT.out)
  have R3 : Hid (Blk w3 T1 30 #[.int .i64 0, .int .i64 0]) := Lib.hid (by rw [← hw3]; exact HBR.out)
  have B3 : Hid (Below w.heap.size w w3) := Lib.hid (by rw [← hw3]; exact ⟨HB0.out.os, HB0.out.tape, HB0.out.output, HB0.out.size, HB0.out.block⟩)
  rw [hw3]
  clear hw3 HH HP HS HBT HBR HB0
  rw [HFB.out]
  obtain ⟨fn, hfn⟩ : ∃ fn, (findR (rooms l) n).1 = fn := ⟨_, rfl⟩
  rw [hfn]
  clear hfn
  have CP := Lib.hid (page_h H3.out fn)
  obtain ⟨V, hV⟩ : ∃ V, pgV l fn = V := ⟨_, rfl⟩
  rw [hV] at CP
  clear hV
  go_wp2_with fail
  refine CP.out.mono ?_
  rintro e w4 ⟨rfl, rfl⟩
  clear CP
  go_wp2_with fail
  refine (pages_h H3.out).mono ?_
  rintro e w4 ⟨rfl, rfl⟩
  go_wp2_with fail
  refine (new_has w3).mono ?_
  rintro e w4 ⟨rfl, hp4, hb4⟩
  obtain ⟨P, hP⟩ : ∃ P, w3.heap.size = P := ⟨_, rfl⟩
  have HPS := Lib.hid hP
  rw [hP] at hp4 ⊢
  have H4 := Lib.hid (H3.out.below hb4)
  have P4 := Lib.hid (Blk.below P3.out hb4 (Blk.lt P3.out))
  have S4 := Lib.hid (S3.out.on hb4)
  have T5 := Lib.hid (Blk.below T3.out hb4 (Blk.lt T3.out))
  have R4 := Lib.hid (Blk.below R3.out hb4 (Blk.lt R3.out))
  have B4 := Lib.hid (B3.out.trans (hb4.mono B3.out.size))
  have HP4 := Lib.hid hp4
  have hTP : T1 < P := by rw [← hP]; exact Blk.lt R3.out
  have HTP := Lib.hid hTP
  clear hp4 hb4 hP hTP H3 P3 S3 T3 R3 B3
  obtain ⟨y, hy⟩ : ∃ y, insR [] 512 r a b p s d = y := ⟨_, rfl⟩
  obtain ⟨sl, er, L', st'⟩ := y
  have HY := Lib.hid hy
  have CI := Lib.hid (insP HP4.out r a b p s d HNN.out S4.out)
  rw [hy] at CI
  clear hy
  have t0 := T5.out.cell 0
  have t1 := T5.out.cell 1
  have t2 := T5.out.cell 2
  have t3 := T5.out.cell 3
  have t4 := T5.out.cell 4
  have t5 := T5.out.cell 5
  go_wp2_with fail
  refine CI.out.mono ?_
  rintro e w5 ⟨rfl, hp5, ho5⟩
  clear t0 t1 t2 t3 t4 t5 T5 CI
  have hPF : ¬ F P := fun hg => by have := HFL.out P hg; have := HTP.out; have := HT1.out; omega
  have H5 := Lib.hid (H4.out.only ho5 hPF)
  have R5 := Lib.hid (ho5.blk R4.out (by have := HTP.out; omega))
  have P5 := Lib.hid (ho5.blk P4.out (by have := HPLL.out; have := HTP.out; have := HT1.out; omega))
  have HO5 := Lib.hid ho5
  have HPF := Lib.hid hPF
  have HP5 := Lib.hid hp5
  have B5 : Hid (Below w.heap.size w w5) := Lib.hid (B4.out.trans (ho5.below B4.out.size (by have := HTP.out; have := HT1.out; have := HWS.out.2.2; omega)))
  clear hp5 ho5 hPF
  by_cases her : er = 0
  · subst her
    rcases Nat.eq_zero_or_pos k with rfl | hk
    · have CA := Lib.hid (add_none H5.out P5.out (some ⟨P, 0, none⟩))
      go_wp2_with fail
      refine CA.out.mono ?_
      rintro e w6 ⟨rfl, rfl⟩
      have r0 := R5.out.cell 0
      have r1 := R5.out.cell 1
      have q0 := R5.out.frozen 0
      have q1 := R5.out.frozen 1
      go_wp2_with fail
      have hRf := Blk.set_ (Blk.set_ R5.out 0 (.int .i64 0)) 1 (.int .i64 0)
      have hOf : Only T1 w5 ((w5.setCell ⟨T1, 0, none⟩ (.int .i64 0)).setCell ⟨T1, 1, none⟩ (.int .i64 0)) := ((Only.refl T1 w5).set_ 0 _).set_ 1 _
      refine bodyPost_ret (ins_ret hRf rfl rfl) rfl ?_
      have hT1 := HT1.out
      have hT0 := HWS.out.2.2
      have hT1F : ¬ F T1 := fun hg => by have := HFL.out T1 hg; omega
      have hPT : PL ≠ T1 := by have := HPLL.out; omega
      have hs5 := B5.out.size
      have hss := hOf.size
      have hY := HY.out
      refine ⟨0, 0, 12, l, 0, A, c, M, Ar, cr, rfl, .inr ⟨by rw [HNN.out]; exact HFB.out, .inr (.inl ⟨by rw [hY], rfl, rfl, rfl, rfl, rfl, rfl⟩)⟩, (H5.out.only hOf hT1F).more (fun g hg => .inl hg) (fun g hg => hg.elim (fun k => by have := HFL.out g k; omega) (fun k => k.2)), hOf.blk P5.out hPT, ?_⟩
      refine ⟨hOf.os.trans B5.out.os, hOf.tape.trans B5.out.tape, hOf.output.trans B5.out.output, by omega, fun q hq hn => ?_⟩
      rw [hOf.block q (by omega) (by omega), B5.out.block q hq]
    · obtain ⟨k', rfl⟩ : ∃ k', k = k' + 1 := ⟨k - 1, by omega⟩
      have HL1 : Hid (l.length < 256 ∧ k' ≤ 1000) := Lib.hid (by have := HLK.out.1; omega)
      have hPlt := HP5.out.lt
      have CA := Lib.hid (add_one (x := ⟨P, L', st'⟩) (H5.out.more (G := fun g => F g ∨ g = P) (fun g hg => .inl hg) (fun g hg => hg.elim (fun q => H5.out.lt g q) (fun q => by omega))) P5.out HL1.out.2 (fun hg => hg.elim HLK.out.2 (fun q => by have := HPLL.out; have := HTP.out; have := HT1.out; omega)) (by have := HL1.out; omega) HP5.out (.inr rfl) (fun i y hi => by
        have h1 := HFL.out y.b (H5.out.fP i y hi)
        have h2 := HTP.out
        have h3 := HT1.out
        show y.b ≠ P
        omega))
      clear hPlt hk
      go_wp2_with fail
      refine CA.out.mono ?_
      rintro e w6 ⟨A6, c6, rfl, h6, p6, t6⟩
      have H6 := Lib.hid h6
      have P6 := Lib.hid p6
      have T6 := Lib.hid t6
      have nT1 : ∀ g, (F g ∨ g = P) ∨ g = PL → T1 ≠ g := fun g hg e => by
        have q1 := HTP.out
        have q2 := HT1.out
        have q3 := HPLL.out
        rcases hg with (hg | hg) | hg
        · have := HFL.out g hg; omega
        · omega
        · omega
      have R6 := Lib.hid ((t6.block T1 (Blk.lt R5.out) (fun hg => nT1 T1 hg rfl)).trans R5.out)
      clear h6 p6 t6 CA nT1
      obtain ⟨l2, hl2⟩ : ∃ l2, l ++ [⟨P, L', st'⟩] = l2 := ⟨_, rfl⟩
      have HL2 := Lib.hid hl2
      rw [hl2] at H6
      have HP6 : Hid (Mem.Hp w6 P L' st') := Lib.hid (H6.out.pg l.length ⟨P, L', st'⟩ (by rw [← hl2, List.getElem?_append_right (Nat.le_refl _), Nat.sub_self]; rfl))
      clear hl2
      have x2 := H6.out.blk.cell 2
      have HSR := Lib.hid (set_rooms_new HL1.out.1 P L' st')
      have hl256 : (rooms l).length ≤ 256 := by rw [rooms_len]; have := HL1.out.1; omega
      have KF : Hid (∀ w0 w7 v7, Far w0 w7 M (.slice Ar (rooms l).length cr) v7 → HA w0 (fun g => (F g ∨ g = P) ∨ (w5.heap.size ≤ g ∧ g < w6.heap.size)) H PL l2 (rooms l) A6 c6 M Ar cr → w7.cell? ⟨H, 2, none⟩ = some (.pointer (some ⟨M, 0, none⟩))) := Lib.hid (fun w0 w7 v7 hf h0 => (hf.blk h0.blk (Blk.ne_ h0.blk h0.map.blk (by decide)) (own_blk_ne h0.map.own h0.blk (by decide))).cell 2)
      go_upto_region 12 with fail
      go_region_held3 (fun w' => w'.cell? ⟨H, 2, none⟩ = some (.pointer (some ⟨M, 0, none⟩))) (first | exact KF.out _ _ _ hf7 (H6.out.drewN _) | go_keep | exact x2)
        (first
          | (go_at_call 21; refine (room_has P L' st' _ (show Mem.Hp w6.drew P L' st' from HP6.out)).mono ?_; rintro e w7 ⟨rfl, m6, rfl⟩)
          | (go_at_call 90; refine (Room.set_any (H6.out.drewN _).map hl256 (Nat.zero_le _) _ _).mono ?_; rintro e w7 ⟨rfl, Ar7, cr7, hm7, hf7⟩))
      have hT1 := HT1.out
      have hT1F : ¬ ((F T1 ∨ T1 = P) ∨ (w5.heap.size ≤ T1 ∧ T1 < w6.heap.size)) := fun hg => by
        have q1 := HTP.out
        have q4 := Blk.lt R5.out
        rcases hg with (hg | hg) | hg
        · have := HFL.out T1 hg; omega
        · omega
        · omega
      have hPLF : ¬ ((F PL ∨ PL = P) ∨ (w5.heap.size ≤ PL ∧ PL < w6.heap.size)) := fun hg => by
        have q1 := HTP.out
        have q4 := Blk.lt P5.out
        have q5 := HPLL.out
        rcases hg with (hg | hg) | hg
        · exact HLK.out.2 hg
        · omega
        · omega
      have h6d := H6.out.drewN (1 + m6)
      rw [HSR.out] at hm7 hf7
      have hH7 := h6d.rooms hm7 hf7
      have ht7 := Lib.hid (far_turn hf7 h6d.fM h6d.fR)
      have R7 : Hid (Blk w7 T1 30 #[.int .i64 0, .int .i64 0]) := Lib.hid (hf7.blk (show Blk (w6.drewN (1 + m6)) _ _ _ from R6.out) (fun e => hT1F (e ▸ h6d.fM)) (fun e => hT1F (h6d.fR _ e)))
      have P7 : Hid (Pool w7 PL k') := Lib.hid (hf7.blk (show Blk (w6.drewN (1 + m6)) _ _ _ from P6.out) (fun e => hPLF (e ▸ h6d.fM)) (fun e => hPLF (h6d.fR _ e)))
      rw [HL2.out] at hH7
      have H7 := Lib.hid hH7
      clear hm7 hf7 h6d x2 hT1 hT1F hH7
      have r0 := R7.out.cell 0
      have r1 := R7.out.cell 1
      have q0 := R7.out.frozen 0
      have q1 := R7.out.frozen 1
      go_wp2_with fail
      have hRf := Blk.set_ (Blk.set_ R7.out 0 (.int .i64 l.length)) 1 (.int .i64 sl)
      have hOf : Only T1 w7 ((w7.setCell ⟨T1, 0, none⟩ (.int .i64 l.length)).setCell ⟨T1, 1, none⟩ (.int .i64 sl)) := ((Only.refl T1 w7).set_ 0 _).set_ 1 _
      refine bodyPost_ret (ins_ret hRf rfl rfl) rfl ?_
      have hT1 := HT1.out
      have hT0 := HWS.out.2.2
      have hTP := HTP.out
      have hs5 := B5.out.size
      have hs6 : w5.heap.size ≤ w6.heap.size := T6.out.size
      have hs7 : w6.heap.size ≤ w7.heap.size := ht7.out.size
      have hR5 := Blk.lt R5.out
      have hPl5 := HP5.out.lt
      have hss := hOf.size
      have hPT : PL ≠ T1 := by have := HPLL.out; omega
      have hY := HY.out
      refine ⟨l.length, sl, 0, l2, k', A6, c6, M, Ar7, cr7, rfl, .inr ⟨by rw [HNN.out]; exact HFB.out, .inr (.inr ⟨by rw [hY], rfl, rfl, rfl, by rw [hY], P, by rw [hY]; exact HL2.out.symm⟩)⟩, ?_, hOf.blk P7.out hPT, ?_⟩
      · refine HA.more (HA.keep H7.out (fun g hg => hOf.block g (H7.out.lt g hg) ?_) hOf.size) (fun g hg => ?_) (fun g hg => ?_)
        · rintro rfl
          rcases hg with ((hg | hg) | hg) | hg
          · have := HFL.out g hg; omega
          · omega
          · omega
          · have : w6.heap.size ≤ g := hg.1
            omega
        · rcases hg with ((hg | hg) | hg) | hg
          · exact .inl hg
          · exact .inr ⟨by omega, by omega⟩
          · exact .inr ⟨by omega, by omega⟩
          · have h1 : w6.heap.size ≤ g := hg.1
            exact .inr ⟨by omega, by omega⟩
        · rcases hg with hg | hg
          · have := HFL.out g hg; omega
          · exact hg.2
      · refine ⟨hOf.os.trans (ht7.out.os.trans (T6.out.os.trans B5.out.os)), hOf.tape.trans (ht7.out.tape.trans (T6.out.tape.trans B5.out.tape)), hOf.output.trans (ht7.out.output.trans (T6.out.output.trans B5.out.output)), by omega, fun q hq hn => ?_⟩
        have nF : ¬ F q := fun e => hn (.inl e)
        have nPL : q ≠ PL := fun e => hn (.inr e)
        rw [hOf.block q (by omega) (by omega), ht7.out.block q (by show q < w6.heap.size; omega) (fun hg => by
          rcases hg with (hg | hg) | hg
          · exact nF hg
          · omega
          · omega)]
        show w6.heap[q]? = _
        rw [T6.out.block q (by omega) (fun hg => by
          rcases hg with (hg | hg) | hg
          · exact nF hg
          · omega
          · exact nPL hg), B5.out.block q hq]
  · have hne : (er == 0) = false := beq_eq_false_iff_ne.2 her
    have HNE := Lib.hid her
    clear her
    have r0 := R5.out.cell 0
    have r1 := R5.out.cell 1
    have q0 := R5.out.frozen 0
    have q1 := R5.out.frozen 1
    go_wp2_with fail
    have hRf := Blk.set_ (Blk.set_ R5.out 0 (.int .i64 0)) 1 (.int .i64 0)
    have hOf : Only T1 w5 ((w5.setCell ⟨T1, 0, none⟩ (.int .i64 0)).setCell ⟨T1, 1, none⟩ (.int .i64 0)) := ((Only.refl T1 w5).set_ 0 _).set_ 1 _
    refine bodyPost_ret (ins_ret hRf rfl rfl) rfl ?_
    have hT1 := HT1.out
    have hT0 := HWS.out.2.2
    have hT1F : ¬ F T1 := fun hg => by have := HFL.out T1 hg; omega
    have hPT : PL ≠ T1 := by have := HPLL.out; omega
    have hs5 := B5.out.size
    have hss := hOf.size
    have hY := HY.out
    refine ⟨0, 0, er, l, k, A, c, M, Ar, cr, rfl, .inr ⟨by rw [HNN.out]; exact HFB.out, .inl ⟨by rw [hY]; exact HNE.out, by rw [hY], rfl, rfl, rfl, rfl⟩⟩, (H5.out.only hOf hT1F).more (fun g hg => .inl hg) (fun g hg => hg.elim (fun k => by have := HFL.out g k; omega) (fun k => k.2)), hOf.blk P5.out hPT, ?_⟩
    refine ⟨hOf.os.trans B5.out.os, hOf.tape.trans B5.out.tape, hOf.output.trans B5.out.output, by omega, fun q hq hn => ?_⟩
    rw [hOf.block q (by omega) (by omega), B5.out.block q hq]
theorem insert_h (h : HA w F H PL l (rooms l) A c M Ar cr) {k : Nat} (hp : Pool w PL k) (hPL : ¬ F PL) (hlk : l.length + k ≤ 256) (r a b : Nat) (p s : Int) (d : List UInt8) (hn : d.length = n) (hs : Sl w w.heap.size 1 A0 n c0 (u8s d))  :
    Calls Try.prog 51 #[.pointer (some ⟨H, 0, none⟩), .agg #[.int .u64 r, .int .u64 a, .int .u64 b, .int .i64 p, .int .i64 s, .slice A0 n c0]] w fun e w' => InsPost w F H PL l k r a b p s d e w' := by
  cases hf : (findR (rooms l) n).2 with
  | true => exact ins_found h hp hPL hlk r a b p s d hn hs hf
  | false => exact ins_new h hp hPL hlk r a b p s d hn hs hf
end
end Go.Proofs.Ythghnhcopmmmpaa.Hea
/- heap.Free, Drop. -/
namespace Go.Proofs.Ythghnhcopmmmpaa.Hea
open Go.RowKit Go.Proofs.Ythghnhcopmmmpaa.Nums Go.Proofs.Ythghnhcopmmmpaa.Mem Go.Proofs.Ythghnhcopmmmpaa.Room
set_option linter.unusedVariables false
set_option linter.unusedSimpArgs false
set_option maxRecDepth 100000
set_option maxHeartbeats 4000000
section
variable {w : World} {F : Nat → Prop} {H PL : Nat} {l : List PgE} {A : Option Addr} {c M : Nat} {Ar : Option Addr} {cr : Nat}
theorem free_some (h : HA w F H PL l (rooms l) A c M Ar cr) (hl : l.length ≤ 256) {i : Nat} {x : PgE} (hi : l[i]? = some x) (sl er : Int) (L' : SL) (hf : FreeTo x.L sl er L') :
    Calls Try.prog 47 #[.pointer (some ⟨H, 0, none⟩), .agg #[.int .i64 i, .int .i64 sl]] w fun e w' => ∃ Ar' cr', e = .returned (.int .i64 er) ∧ HA w' (fun g => F g ∨ (w.heap.size ≤ g ∧ g < w'.heap.size)) H PL (l.set i ⟨x.b, L', x.st⟩) (rooms (l.set i ⟨x.b, L', x.st⟩)) A c M Ar' cr' ∧ Turn F w w' := by
  obtain ⟨T0, hT0⟩ : ∃ T0, w.heap.size = T0 := ⟨_, rfl⟩
  obtain ⟨W0, hW0⟩ : ∃ W0, w.alloc (.cells #[.int .i64 i, .int .i64 sl] 30) = W0 := ⟨_, rfl⟩
  have hb0 : Below w.heap.size w W0 := by rw [← hW0]; exact bel_alloc _ _
  have hbT : Blk W0 T0 30 #[.int .i64 i, .int .i64 sl] := by rw [← hW0, ← hT0]; exact Blk.new w _ _
  have HH := Lib.hid (h.below hb0)
  have HBT := Lib.hid hbT
  have HB0 := Lib.hid hb0
  have HFL : Hid (∀ g, F g → g < T0) := Lib.hid (by rw [← hT0]; exact h.lt)
  have HWS := Lib.hid (And.intro hW0 hT0)
  have HXI := Lib.hid hi
  have HFT := Lib.hid hf
  have HL := Lib.hid hl
  have t0 := hbT.cell 0
  have t1 := hbT.cell 1
  have hpv : pgV l (i : Int) = .pointer (some ⟨x.b, 0, none⟩) := by
    have hl := (List.getElem?_eq_some_iff.1 hi).1
    unfold pgV
    rw [if_neg (by omega), Int.toNat_natCast, hi]
  have CP := Lib.hid (page_h HH.out i)
  rw [hpv] at CP
  clear h hbT hb0 hW0 hT0 hpv hi hf hl
  go_enter Try.func47, Try.ntmps47
  go_wp2_with fail
  rw [HWS.out.1, HWS.out.2]
  refine CP.out.mono ?_
  rintro e w4 ⟨rfl, rfl⟩
  have CI := Lib.hid (freeP (HH.out.pg i x HXI.out) sl er L' HFT.out)
  go_wp2_with fail
  refine CI.out.mono ?_
  rintro e w5 ⟨rfl, hp5, ho5⟩
  clear t0 t1 CP CI
  have hxF := HH.out.fP i x HXI.out
  have H5 := Lib.hid (HH.out.turnPage HXI.out ho5 hp5)
  have hFx := HFL.out x.b hxF
  have T5 := Lib.hid (ho5.blk HBT.out (by omega))
  have HO5 := Lib.hid ho5
  have HXF := Lib.hid hxF
  have HP5 := Lib.hid hp5
  clear hp5 ho5 hxF hFx
  rcases HFT.out with ⟨h1, h2, h3⟩ | ⟨v, f, k, h1, h2, h3, h4⟩
  · subst h2 h3
    go_wp2_with fail
    go_ret
    have hrl : rooms (l.set i ⟨x.b, x.L, x.st⟩) = rooms l := by
      unfold rooms
      rw [List.map_set]
      apply List.ext_getElem?
      intro j
      rw [List.getElem?_set]
      by_cases e : i = j
      · subst e
        have hl := (List.getElem?_eq_some_iff.1 HXI.out).1
        rw [if_pos rfl, if_pos (by simpa using hl), List.getElem?_map, HXI.out]
        rfl
      · rw [if_neg e]
    have hs5 := HO5.out.size
    have hs0 := HB0.out.size
    have hT0 := HWS.out.2
    refine ⟨Ar, cr, rfl, (by rw [hrl]; exact H5.out.more (fun g hg => .inl hg) (fun g hg => hg.elim (fun k => by have := HFL.out g k; omega) (fun k => k.2))), ⟨HO5.out.os.trans HB0.out.os, HO5.out.tape.trans HB0.out.tape, HO5.out.output.trans HB0.out.output, by omega, fun q hq hn => ?_⟩⟩
    rw [HO5.out.block q (by omega) (fun e => hn (e ▸ HXF.out)), HB0.out.block q hq]
  · subst h2
    clear h1 h3 h4
    have x2 := H5.out.blk.cell 2
    have t0 := T5.out.cell 0
    have HSR := Lib.hid (set_rooms HXI.out HL.out x.b L' x.st)
    have hl256 : (rooms l).length ≤ 256 := by rw [rooms_len]; exact HL.out
    have KF : Hid (∀ w0 w7 v7, Far w0 w7 M (.slice Ar (rooms l).length cr) v7 → HA w0 F H PL (l.set i ⟨x.b, L', x.st⟩) (rooms l) A c M Ar cr → Blk w0 T0 30 #[.int .i64 i, .int .i64 sl] → w7.cell? ⟨H, 2, none⟩ = some (.pointer (some ⟨M, 0, none⟩)) ∧ w7.cell? ⟨T0, 0, none⟩ = some (.int .i64 i)) := Lib.hid (fun w0 w7 v7 hf h0 ht => ⟨(hf.blk h0.blk (Blk.ne_ h0.blk h0.map.blk (by decide)) (own_blk_ne h0.map.own h0.blk (by decide))).cell 2, (hf.blk ht (Blk.ne_ ht h0.map.blk (by decide)) (own_blk_ne h0.map.own ht (by decide))).cell 0⟩)
    go_upto_region 5 with fail
    go_region_held3 (fun w' => w'.cell? ⟨H, 2, none⟩ = some (.pointer (some ⟨M, 0, none⟩)) ∧ w'.cell? ⟨T0, 0, none⟩ = some (.int .i64 i)) (first | exact KF.out _ _ _ hf7 (H5.out.drewN _) (show Blk (w5.drewN _) _ _ _ from T5.out) | go_keep | exact ⟨x2, t0⟩)
      (first
        | (go_at_call 21; refine (room_has x.b L' x.st _ (show Mem.Hp w5.drew x.b L' x.st from HP5.out)).mono ?_; rintro e w6 ⟨rfl, m6, rfl⟩)
        | (go_at_call 90; refine (Room.set_any (H5.out.drewN _).map hl256 (Nat.zero_le _) _ _).mono ?_; rintro e w7 ⟨rfl, Ar7, cr7, hm7, hf7⟩))
    have h5d := H5.out.drewN (1 + m6)
    rw [HSR.out] at hm7 hf7
    have H7 := Lib.hid (h5d.rooms hm7 hf7)
    have ht7 := Lib.hid (far_turn hf7 h5d.fM h5d.fR)
    clear hm7 hf7 h5d x2 t0
    go_wp2_with fail
    go_ret
    have hs5 := HO5.out.size
    have hs0 := HB0.out.size
    have hs7 : w5.heap.size ≤ w7.heap.size := ht7.out.size
    have hT0 := HWS.out.2
    refine ⟨rfl, ⟨Ar7, cr7, H7.out.more (fun g hg => ?_) (fun g hg => hg.elim (fun k => by have := HFL.out g k; omega) (fun k => k.2))⟩, ⟨ht7.out.os.trans (HO5.out.os.trans HB0.out.os), ht7.out.tape.trans (HO5.out.tape.trans HB0.out.tape), ht7.out.output.trans (HO5.out.output.trans HB0.out.output), by omega, fun q hq hn => ?_⟩⟩
    · rcases hg with hg | hg
      · exact .inl hg
      · have h1 : w5.heap.size ≤ g := hg.1
        exact .inr ⟨by omega, hg.2⟩
    · rw [ht7.out.block q (by show q < w5.heap.size; omega) hn]
      show w5.heap[q]? = _
      rw [HO5.out.block q (by omega) (fun e => hn (e ▸ HXF.out)), HB0.out.block q hq]
theorem give_any {w : World} {PL k : Nat} (h : Pool w PL k) (n : Nat) (hk : k + n ≤ 1000) : Calls Try.prog 91 #[.pointer (some ⟨PL, 0, none⟩), .int .i64 n] w fun e w' => e = .returned (.tuple #[]) ∧ Pool w' PL (k + n) ∧ Only PL w w' := by
  have x0 := Blk.cell h 0
  have f0 := Blk.frozen h 0
  have h1 : (k : Int) + n ≤ 1000 := by omega
  have HS : Hid (Pool (w.setCell ⟨PL, 0, none⟩ (.int .i64 ((k : Int) + n))) PL (k + n)) := Lib.hid (by
    have := Blk.set_ h 0 (.int .i64 ((k : Int) + n))
    rw [show (k : Int) + n = ((k + n : Nat) : Int) by push_cast; rfl] at this ⊢
    exact this)
  clear h
  go_enter Try.func91, Try.ntmps91
  go_wp2_with fail
  exact bodyPost_end (v := .tuple #[]) (by simp [results, Try.results91, go_sem]) rfl ⟨rfl, HS.out, (Only.refl PL w).set_ _ _⟩
theorem drop_h (h : HA w F H PL l (rooms l) A c M Ar cr) {k : Nat} (hp : Pool w PL k) (hPL : ¬ F PL) (hlk : l.length + k ≤ 256) :
    Calls Try.prog 49 #[.pointer (some ⟨H, 0, none⟩)] w fun e w' => ∃ A' c' M' Ar' cr', e = .returned (.int .i64 l.length) ∧ HA w' (fun g => F g ∨ (w.heap.size ≤ g ∧ g < w'.heap.size)) H PL [] [] A' c' M' Ar' cr' ∧ Pool w' PL (k + l.length) ∧ Turn (fun g => F g ∨ g = PL) w w' := by
  have CP := Lib.hid (pages_h h)
  by_cases h0 : l.length = 0
  · obtain rfl : l = [] := List.length_eq_zero_iff.1 h0
    have HH := Lib.hid h
    have HP := Lib.hid hp
    clear h hp h0
    go_enter Try.func49, Try.ntmps49
    go_wp2_with fail
    refine CP.out.mono ?_
    rintro e w1 ⟨rfl, rfl⟩
    go_wp2_with fail
    go_ret
    exact ⟨A, c, M, Ar, cr, rfl, HH.out.more (fun g hg => .inl hg) (fun g hg => hg.elim (fun k => HH.out.lt g k) (fun k => k.2)), HP.out, Turn.refl _ _⟩
  · have h1 : (0 : Int) < l.length := by omega
    have CG := Lib.hid (give_any hp l.length (by omega))
    have x0 := h.blk.cell 0
    have HH := Lib.hid h
    have HPL := Lib.hid hPL
    clear h hp h0 hPL
    go_enter Try.func49, Try.ntmps49
    go_wp2_with fail
    refine CP.out.mono ?_
    rintro e w1 ⟨rfl, rfl⟩
    go_wp2_with fail
    refine CG.out.mono ?_
    rintro e w2 ⟨rfl, hp2, ho2⟩
    have H2 := Lib.hid (HH.out.only ho2 HPL.out)
    have P2 := Lib.hid hp2
    have HO2 := Lib.hid ho2
    clear hp2 ho2 x0 CG CP
    go_wp2_with fail
    obtain ⟨M', hM'⟩ : ∃ M', w2.heap.size = M' := ⟨_, rfl⟩
    obtain ⟨W3, hW3⟩ : ∃ W3, w2.alloc (.cells #[.slice none 0 0] 157) = W3 := ⟨_, rfl⟩
    have CN := Room.new_any w2
    rw [hW3, hM'] at CN
    have HM3 : Hid (Blk W3 M' 157 #[.slice none 0 0]) := Lib.hid (by rw [← hW3, ← hM']; exact Blk.new w2 _ _)
    have B3 : Hid (Below w2.heap.size w2 W3) := Lib.hid (by rw [← hW3]; exact bel_alloc _ _)
    have HM' := Lib.hid hM'
    refine CN.mono ?_
    rintro e w3 ⟨rfl, rfl⟩
    clear CN hW3 hM'
    have H3 := Lib.hid (H2.out.below B3.out)
    have x1 := H3.out.blk.cell 1
    have x2 := H3.out.blk.cell 2
    have f1 := H3.out.blk.frozen 1
    have f2 := H3.out.blk.frozen 2
    go_wp2_with fail
    go_ret
    have hb := Blk.set_ (Blk.set_ H3.out.blk 1 (.slice none 0 0)) 2 (.pointer (some ⟨M', 0, none⟩))
    have ho : Only H w3 ((w3.setCell ⟨H, 1, none⟩ (.slice none 0 0)).setCell ⟨H, 2, none⟩ (.pointer (some ⟨M', 0, none⟩))) := ((Only.refl H w3).set_ 1 _).set_ 2 _
    have hMH : M' ≠ H := Blk.ne_ HM3.out H3.out.blk (by decide)
    have hPLH : PL ≠ H := fun e => HPL.out (e ▸ HH.out.fH)
    have hs2 := HO2.out.size
    have hs3 := B3.out.size
    have hss := ho.size
    have hMl := Blk.lt HM3.out
    have hM' := HM'.out
    have hPl := Blk.lt P2.out
    refine ⟨none, 0, M', none, 0, rfl, ⟨hb, World.ownsRow_nil _ _ _ _, ⟨ho.blk HM3.out hMH, World.ownsRow_nil _ _ _ _, Nat.zero_le _⟩, fun i x hx => by simp at hx, fun i j x y hx => by simp at hx, .inl HH.out.fH, .inr ⟨by omega, by omega⟩, fun g hg => by simp [Value.ownBlock] at hg, fun g hg => by simp [Value.ownBlock] at hg, fun i x hx => by simp at hx, fun g hg => hg.elim (fun q => by have := HH.out.lt g q; omega) (fun q => q.2)⟩, ho.blk (Blk.below P2.out B3.out hPl) hPLH, ⟨ho.os.trans (B3.out.os.trans HO2.out.os), ho.tape.trans (B3.out.tape.trans HO2.out.tape), ho.output.trans (B3.out.output.trans HO2.out.output), by omega, fun q hq hn => ?_⟩⟩
    rw [ho.block q (by omega) (fun e => hn (.inl (e ▸ HH.out.fH))), B3.out.block q (by omega), HO2.out.block q hq (fun e => hn (.inr e))]
end
end Go.Proofs.Ythghnhcopmmmpaa.Hea
/- lapidarylaw05.do. -/
namespace Go.Proofs.Ythghnhcopmmmpaa.Mem
open Go.RowKit Go.Proofs.Ythghnhcopmmmpaa.Nums
set_option linter.unusedVariables false
set_option linter.unusedSimpArgs false
set_option maxRecDepth 100000
set_option maxHeartbeats 4000000
theorem sl_own {w : World} {B n c : Nat} {e : TypeId} {A : Option Addr} {xs : List Value} (h : w.ownsRow B e 1 (.slice A n c) n xs) : Sl w w.heap.size 1 A n c xs := by
  obtain ⟨A', c', hv, hs⟩ := Sl.of_own h
  injection hv with h1 _ h3
  subst h1 h3
  exact hs
theorem Hp.drew {w : World} {P : Nat} {L : SL} {st : Nat} (h : Hp w P L st) : Hp w.drew P L st := h
theorem Turn.cell {F : Nat → Prop} {w w' : World} (h : Turn F w w') {p : Addr} {v : Value} (hp : p.block < w.heap.size) (hn : ¬ F p.block) (hc : w.cell? p = some v) : w'.cell? p = some v := by
  have hb := h.block p.block hp hn
  rw [← hc]
  unfold World.cell?
  rw [hb]
theorem Duo.two {w w3 w4 w5 : World} {P R st' c : Nat} {L' : SL} {F F' : Nat → Prop} {E : List Ent} {A : Option Addr} (hbel : Below w.heap.size w w3) (hp4 : Hp w4 P L' st') (ho4 : Only P w3 w4) (hE : E.map Prod.fst = L') (hr5 : RfA w5 F' R E st' A c) (ht5 : Turn F w4 w5) (hFP : ¬ F P) (hFP' : ¬ F' P) (hFB : ∀ g, F g → w.heap.size ≤ g) (hFB' : ∀ g, F' g → w.heap.size ≤ g) (hwP : w.heap.size ≤ P) : Duo w w5 P R L' st' :=
  ⟨hp4.keep (ht5.block P hp4.lt hFP), ⟨F', E, A, c, hE, hr5, hFP', hFB'⟩, hwP, (hbel.trans (ho4.below hbel.size hwP)).trans (ht5.below (Nat.le_trans hbel.size ho4.size) hFB)⟩
section
variable {w wr : World} {P R st n c0 : Nat} {L : SL} {A0 : Option Addr}
theorem do_ins (h : Duo w wr P R L st) (z i : Int) (r a b : Nat) (p s : Int) (x : List UInt8) (hx : x.length = n) (hs : Sl wr wr.heap.size 1 A0 n c0 (u8s x)) (hr : r < 18446744073709551616) (ha : a < 18446744073709551616) (hb : b < 18446744073709551616) (hz : 0 ≤ z ∧ z ≤ 255) (h4 : ¬ z % 8 = 4) (h5 : ¬ z % 8 = 5) (h6 : ¬ z % 8 = 6) (h7 : ¬ z % 8 = 7) :
    Calls Try.prog 17 #[.pointer (some ⟨P, 0, none⟩), .pointer (some ⟨R, 0, none⟩), .agg #[.int .u8 z, .int .i64 i, .int .u64 r, .int .u64 a, .int .u64 b, .int .i64 p, .int .i64 s, .slice A0 n c0]] wr fun e w' => e = .returned (.tuple #[.pointer (some ⟨P, 0, none⟩), .bool true]) ∧ ∃ L' st', Duo w w' P R L' st' := by
  have HD := Lib.hid h
  have HS := Lib.hid hs
  obtain ⟨b0, hb0⟩ : ∃ b0, wr.heap.size = b0 := ⟨_, rfl⟩
  obtain ⟨W1, hW1⟩ : ∃ W1, wr.alloc (.cells #[.int .u8 z, .int .i64 i, .int .u64 r, .int .u64 a, .int .u64 b, .int .i64 p, .int .i64 s, .slice A0 n c0] 35) = W1 := ⟨_, rfl⟩
  have HO1 : Hid (Blk W1 b0 35 #[.int .u8 z, .int .i64 i, .int .u64 r, .int .u64 a, .int .u64 b, .int .i64 p, .int .i64 s, .slice A0 n c0]) := Lib.hid (by rw [← hW1, ← hb0]; exact Blk.new wr _ _)
  have HB1 : Hid (Below b0 wr W1) := Lib.hid (by rw [← hW1, ← hb0]; exact bel_alloc _ _)
  have HW1 := Lib.hid hW1
  have HBZ := Lib.hid hb0
  obtain ⟨d, hd⟩ : ∃ d, x.take 230 = d := ⟨_, rfl⟩
  obtain ⟨m, hm⟩ : ∃ m, min n 230 = m := ⟨_, rfl⟩
  have HDL : Hid (d.length = m) := Lib.hid (by rw [← hd, ← hm, List.length_take, hx]; omega)
  have hm230 : m ≤ 230 := by omega
  have HF : Hid (∀ w0, Sl w0 w0.heap.size 1 A0 n c0 (u8s x) → Calls Try.prog 37 #[.agg #[.int .u64 r, .int .u64 a, .int .u64 b, .int .i64 p, .int .i64 s, .slice A0 n c0]] w0 fun e w' => ∃ v, e = .returned (.agg #[.int .u64 r, .int .u64 a, .int .u64 b, .int .i64 p, .int .i64 s, v]) ∧ OwnB w' w0.heap.size v m (u8s d) ∧ Below w0.heap.size w0 w') := Lib.hid (fun w0 h0 => by have := few_any r a b p s A0 n c0 x w0 h0; rwa [hm, hd] at this)
  clear h hs hW1 hd hm
  go_enter Try.func17, Try.ntmps17
  go_wp2_with fail
  rw [HW1.out]
  refine (HF.out _ (HS.out.on (by rw [HBZ.out]; exact HB1.out))).mono ?_
  rintro e w2 ⟨v, rfl, hov, hb2⟩
  obtain ⟨Au, cu, rfl, _⟩ := Sl.of_own hov
  have hb1s : b0 ≤ W1.heap.size := Nat.le_of_lt (Blk.lt HO1.out)
  obtain ⟨T8, hT8⟩ : ∃ T8, w2.heap.size = T8 := ⟨_, rfl⟩
  obtain ⟨w3, hw3⟩ : ∃ w3, w2.alloc (.cells #[.int .u64 r, .int .u64 a, .int .u64 b, .int .i64 p, .int .i64 s, .slice Au m cu] 33) = w3 := ⟨_, rfl⟩
  have hb3 : Below W1.heap.size W1 w3 := by rw [← hw3]; exact bel_trans hb2 (bel_alloc _ _)
  have HO3 := Lib.hid (Blk.below HO1.out hb3 (Blk.lt HO1.out))
  have HT3 : Hid (Blk w3 T8 33 #[.int .u64 r, .int .u64 a, .int .u64 b, .int .i64 p, .int .i64 s, .slice Au m cu]) := Lib.hid (by rw [← hw3, ← hT8]; exact Blk.new w2 _ _)
  have HU3 : Hid (OwnB w3 b0 (.slice Au m cu) m (u8s d)) := Lib.hid (by rw [← hw3]; exact own_mono (World.ownsRow.alloc hov _) hb1s)
  have HB3 : Hid (Below b0 wr w3) := Lib.hid (HB1.out.trans (hb3.mono hb1s))
  have HD3 := Lib.hid (HD.out.below (by rw [HBZ.out]; exact HB3.out))
  have HW3 : Hid (w2.alloc (.cells #[.int .u64 r, .int .u64 a, .int .u64 b, .int .i64 p, .int .i64 s, .slice Au m cu] 33) = w3 ∧ w2.heap.size = T8 ∧ b0 ≤ T8) := Lib.hid ⟨hw3, hT8, by rw [← hT8]; exact Nat.le_trans hb1s hb2.size⟩
  clear hov hb2 hb1s hT8 hw3 hb3
  go_upto_region 2 with fail
  rw [HW3.out.1, HW3.out.2.1]
  have o0 := HO3.out.cell 0
  have o1 := HO3.out.cell 1
  obtain ⟨hHp, ⟨F, E, A, c, hE, hR, hFP, hFB⟩, hwP, hbel⟩ := HD.out
  have hbP : b0 ≠ P := by have := hHp.lt; have := HBZ.out; omega
  have hFb : ¬ F b0 := fun hg => by have := hR.lt b0 hg; have := HBZ.out; omega
  have hTb : b0 ≤ T8 := HW3.out.2.2
  have hTP : T8 ≠ P := by have := hHp.lt; have := HBZ.out; omega
  have hFT : ¬ F T8 := fun hg => by have := hR.lt T8 hg; have := HBZ.out; omega
  have hlb := Blk.lt HO3.out
  have hlT := Blk.lt HT3.out
  have hbelw : Below wr.heap.size wr w3 → Below w.heap.size w w3 := fun k => hbel.trans (k.mono hbel.size)
  have HFL : Hid (∀ g, F g → g < b0) := Lib.hid (fun g hg => by have := hR.lt g hg; have := HBZ.out; omega)
  have HBW := Lib.hid (hbelw (by rw [HBZ.out]; exact HB3.out))
  have HH := Lib.hid (And.intro (hHp.below (by rw [HBZ.out]; exact HB3.out) hHp.lt) (And.intro (hR.below (by rw [HBZ.out]; exact HB3.out)) (And.intro hFP (And.intro hFB (And.intro hwP hbel)))))
  have o2 := HO3.out.cell 2
  have o3 := HO3.out.cell 3
  have o4 := HO3.out.cell 4
  have o5 := HO3.out.cell 5
  have o6 := HO3.out.cell 6
  have o7 := HO3.out.cell 7
  have hsm := hHp.small
  obtain ⟨y, hy⟩ : ∃ y, insR L st r a b p s d = y := ⟨_, rfl⟩
  obtain ⟨qr, xr, L', st'⟩ := y
  have HCP : Hid (∀ w0 A1 c1, Hp w0 P L st → Sl w0 w0.heap.size 1 A1 m c1 (u8s d) → Calls Try.prog 34 #[.pointer (some ⟨P, 0, none⟩), .agg #[.int .u64 r, .int .u64 a, .int .u64 b, .int .i64 p, .int .i64 s, .slice A1 m c1]] w0 fun e w' => e = .returned (.tuple #[.int .i64 qr, .int .i64 xr]) ∧ Hp w' P L' st' ∧ Only P w0 w') := Lib.hid (fun w0 A1 c1 h0 h1 => by have := insP h0 r a b p s d HDL.out h1; rwa [hy] at this)
  have HCR : Hid (∀ w0 A1 c1, RfA w0 F R E st A c → Sl w0 w0.heap.size 1 A1 m c1 (u8s d) → Calls Try.prog 64 #[.pointer (some ⟨R, 0, none⟩), .agg #[.int .u64 r, .int .u64 a, .int .u64 b, .int .i64 p, .int .i64 s, .slice A1 m c1]] w0 fun e w' => e = .returned (.tuple #[.int .i64 qr, .int .i64 xr]) ∧ (∃ E' A' c', E'.map Prod.fst = L' ∧ RfA w' (fun g => F g ∨ (w0.heap.size ≤ g ∧ g < w'.heap.size)) R E' st' A' c') ∧ Turn F w0 w') := Lib.hid (fun w0 A1 c1 h0 h1 => by have := insF h0 hE hsm.1 hsm.2.1 hsm.2.2 r a b p s d HDL.out h1; rwa [hy] at this)
  have e4 : (z % 8 == 4) = false := beq_eq_false_iff_ne.2 h4
  have e5 : (z % 8 == 5) = false := beq_eq_false_iff_ne.2 h5
  have e6 : (z % 8 == 6) = false := beq_eq_false_iff_ne.2 h6
  have e7 : (z % 8 == 7) = false := beq_eq_false_iff_ne.2 h7
  clear hy hHp hR hFP hFB hwP hbel hE hsm
  go_wp2_with fail
  clear o0 o1 o2 o3 o4 o5 o6 o7
  refine (HF.out _ (HS.out.on (by rw [HBZ.out]; exact HB3.out))).mono ?_
  rintro e w4 ⟨v, rfl, hov, hb4⟩
  obtain ⟨Am, cm, rfl, _⟩ := Sl.of_own hov
  obtain ⟨TM, hTM⟩ : ∃ TM, w4.heap.size = TM := ⟨_, rfl⟩
  obtain ⟨w5, hw5⟩ : ∃ w5, w4.alloc (.cells #[.int .u64 r, .int .u64 a, .int .u64 b, .int .i64 p, .int .i64 s, .slice Am m cm] 33) = w5 := ⟨_, rfl⟩
  have hb5 : Below w3.heap.size w3 w5 := by rw [← hw5]; exact bel_trans hb4 (bel_alloc _ _)
  have HM5 : Hid (Blk w5 TM 33 #[.int .u64 r, .int .u64 a, .int .u64 b, .int .i64 p, .int .i64 s, .slice Am m cm]) := Lib.hid (by rw [← hw5, ← hTM]; exact Blk.new w4 _ _)
  have HT5 := Lib.hid (Blk.below HT3.out hb5 hlT)
  have HN5 : Hid (w5.ownsRow w3.heap.size 5 1 (.slice Am m cm) m (u8s d)) := Lib.hid (by rw [← hw5]; exact World.ownsRow.alloc hov _)
  have HU5 : Hid (OwnB w5 b0 (.slice Au m cu) m (u8s d)) := Lib.hid (own_keep HU3.out (fun k hk => hb5.block k (HU3.out.lt k hk).2))
  have HUL : Hid (∀ k, (Value.slice Au m cu).ownBlock = some k → k < w3.heap.size) := Lib.hid (fun k hk => (HU3.out.lt k hk).2)
  have hP5 : Hp w5 P L st := HH.out.1.below hb5 HH.out.1.lt
  have hR5 : RfA w5 F R E st A c := HH.out.2.1.below hb5
  have hlM : TM < w5.heap.size := Blk.lt HM5.out
  have hTMb : w3.heap.size ≤ TM := by rw [← hTM]; exact hb4.size
  have hMP : TM ≠ P := by have := HH.out.1.lt; omega
  have hFM : ¬ F TM := fun hg => by have := HH.out.2.1.lt TM hg; omega
  have HW5 := Lib.hid hw5
  have hTM2 := Lib.hid hTM
  clear hov hb4 hw5 hTM
  go_upto_region 14 with fail
  rw [HW5.out, hTM2.out]
  have x0 := HM5.out.cell 0
  have x1 := HM5.out.cell 1
  have x2 := HM5.out.cell 2
  have x3 := HM5.out.cell 3
  have x4 := HM5.out.cell 4
  have x5 := HM5.out.cell 5
  go_wp2_with fail
  clear x0 x1 x2 x3 x4 x5
  refine (HCP.out _ Am cm hP5 (sl_own HN5.out)).mono ?_
  rintro e w6 ⟨rfl, hp6, ho6⟩
  have HT6 := Lib.hid (ho6.blk HT5.out hTP)
  have HM6 := Lib.hid (ho6.blk HM5.out hMP)
  have hPown : ∀ (B : Nat) (u : Value), w5.ownsRow B 5 1 u m (u8s d) → w6.ownsRow B 5 1 u m (u8s d) := fun B u hu => own_keep hu fun k hk => ho6.block k (hu.lt k hk).2 (fun e => by obtain ⟨X, hpx, _⟩ := hP5; exact own_blk_ne hu hpx.1 (by decide) (by rw [hk, e]))
  have HN6 := Lib.hid (hPown _ _ HN5.out)
  have HU6 := Lib.hid (hPown _ _ HU5.out)
  have hR6 := hR5.only ho6 HH.out.2.2.1
  have x0 := HT6.out.cell 0
  have x1 := HT6.out.cell 1
  have x2 := HT6.out.cell 2
  have x3 := HT6.out.cell 3
  have x4 := HT6.out.cell 4
  have x5 := HT6.out.cell 5
  go_wp2_with fail
  clear x0 x1 x2 x3 x4 x5
  refine (HCR.out _ Au cu hR6 (sl_own HU6.out)).mono ?_
  rintro e w7 ⟨rfl, ⟨E7, A7, c7, hE7, hr7⟩, ht7⟩
  have HT7 : Hid (Blk w7 T8 33 #[.int .u64 r, .int .u64 a, .int .u64 b, .int .i64 p, .int .i64 s, .slice Au m cu]) := Lib.hid ((ht7.block T8 (Blk.lt HT6.out) hFT).trans HT6.out)
  have HM7 : Hid (Blk w7 TM 33 #[.int .u64 r, .int .u64 a, .int .u64 b, .int .i64 p, .int .i64 s, .slice Am m cm]) := Lib.hid ((ht7.block TM (Blk.lt HM6.out) hFM).trans HM6.out)
  have hs56 : w5.heap.size ≤ w6.heap.size := ho6.size
  have hs35 : w3.heap.size ≤ w5.heap.size := hb5.size
  have hFlt : ∀ g, F g → g < b0 := by
    intro g hg
    exact HFL.out g hg
  have HN7 : Hid (w7.ownsRow w3.heap.size 5 1 (.slice Am m cm) m (u8s d)) := Lib.hid (own_keep HN6.out fun k hk => ht7.block k (HN6.out.lt k hk).2 (fun hg => by have h1 := (HN6.out.lt k hk).1; have h2 := hFlt k hg; have := HB3.out.size; have := HBZ.out; omega))
  have HU7 : Hid (w7.ownsRow b0 5 1 (.slice Au m cu) m (u8s d)) := Lib.hid (own_keep HU6.out fun k hk => ht7.block k (HU6.out.lt k hk).2 (fun hg => by have h1 := (HU6.out.lt k hk).1; have h2 := hFlt k hg; omega))
  have HD7 : Hid (Duo w w7 P R L' st') := Lib.hid (Duo.two (w3 := w5) (HBW.out.trans (hb5.mono (by have := HBW.out.size; omega))) hp6 ho6 hE7 hr7 ht7 HH.out.2.2.1 (fun hg => hg.elim HH.out.2.2.1 (fun k => by have := hp6.lt; omega)) HH.out.2.2.2.1 (fun g hg => hg.elim (HH.out.2.2.2.1 g) (fun k => by have := HBW.out.size; omega)) HH.out.2.2.2.2.1)
  have HFM7 : Hid (∀ k, (Value.slice Am m cm).ownBlock = some k → w.heap.size ≤ k ∧ k ≠ P ∧ ¬ (F k ∨ (w6.heap.size ≤ k ∧ k < w7.heap.size))) := Lib.hid (fun k hk => by
    have h1 := (HN6.out.lt k hk)
    have h2 := (HN5.out.lt k hk)
    have := HBW.out.size
    have := HH.out.1.lt
    refine ⟨by omega, by omega, fun hg => ?_⟩
    rcases hg with hg | hg
    · have := hFlt k hg; have := HB3.out.size; have := HBZ.out; omega
    · omega)
  have HR7 := Lib.hid hr7
  have HPLT : Hid (P < w6.heap.size) := Lib.hid hp6.lt
  have HSZ : Hid (w3.heap.size ≤ w6.heap.size) := Lib.hid (Nat.le_trans hs35 hs56)
  have HP7 : Hid (Hp w7 P L' st') := Lib.hid HD7.out.1
  have HE7 := Lib.hid hE7
  clear hr7 hE7 ht7 hp6 ho6 hR6 hPown hP5 hR5 hs56 hs35 hFlt
  have x0 := HM7.out.cell 0
  have x1 := HM7.out.cell 1
  have x2 := HM7.out.cell 2
  have x3 := HM7.out.cell 3
  have x4 := HM7.out.cell 4
  have x5 := HM7.out.cell 5
  have y0 := HT7.out.cell 0
  have y1 := HT7.out.cell 1
  have y2 := HT7.out.cell 2
  have y3 := HT7.out.cell 3
  have y4 := HT7.out.cell 4
  have y5 := HT7.out.cell 5
  go_wp2_with fail
  clear x0 x1 x2 x3 x4 x5 y0 y1 y2 y3 y4 y5
  refine (samet_yes r a b p s Am Au m cm m cu d w7 (sl_own HN7.out) (sl_own HU7.out)).mono ?_
  rintro e w8 ⟨rfl, hb8⟩
  have HM8 := Lib.hid (Blk.below HM7.out hb8 (Blk.lt HM7.out))
  have HN8 : Hid (w8.ownsRow w3.heap.size 5 1 (.slice Am m cm) m (u8s d)) := Lib.hid (own_keep HN7.out fun k hk => hb8.block k (HN7.out.lt k hk).2)
  have HR8 := Lib.hid (HR7.out.below hb8)
  have HP8 := Lib.hid (HP7.out.below hb8 HP7.out.lt)
  have HB8 : Hid (Below w.heap.size w w8) := Lib.hid (HD7.out.2.2.2.trans (hb8.mono HD7.out.2.2.2.size))
  have HFIN : Hid (∀ (wl : World) (g : Nat), (Value.slice Am m cm).ownBlock = some g → Only g w8 wl → Duo w wl P R L' st') := Lib.hid (fun wl g hg ho => by
    obtain ⟨q1, q2, q3⟩ := HFM7.out g hg
    exact ⟨HP8.out.only ho (Ne.symm q2), ⟨_, E7, A7, c7, HE7.out, HR8.out.only ho q3, (fun hh => hh.elim HH.out.2.2.1 (fun k => by have := HPLT.out; omega)), (fun k hk => hk.elim (HH.out.2.2.2.1 k) (fun k => by have := HBW.out.size; have := HSZ.out; omega))⟩, HH.out.2.2.2.2.1, HB8.out.trans (ho.below HB8.out.size q1)⟩)
  have HFIN0 : Hid (Duo w w8 P R L' st') := Lib.hid (HD7.out.below hb8)
  clear hb8
  have x5 := HM8.out.cell 5
  go_wp2_with fail
  obtain ⟨G, hG⟩ : ∃ G, 0 < m → (Am = some ⟨G, 0, none⟩ ∧ m ≤ cm ∧ (Value.slice Am m cm).ownBlock = some G ∧ ∃ cur, Blk w8 G 5 cur ∧ ∀ j y, j < m → (u8s d)[j]? = some y → cur[j]? = some y) := by
    rcases HN8.out.2 with ⟨hv, hm0⟩ | ⟨g, cap, cur, hv, hbg, hg, hnc, hcm, hcs, htake⟩
    · exact ⟨0, fun h => absurd h (by omega)⟩
    · refine ⟨g, fun h => ?_⟩
      injection hv with q1 _ q3
      subst q1 q3
      refine ⟨rfl, hnc, rfl, cur, hg, fun j y hj hy => ?_⟩
      rw [← htake, List.getElem?_take, if_pos (by omega), Array.getElem?_toList] at hy
      exact hy
  have HG := Lib.hid hG
  clear hG x5
  go_loopw [106] (fun i wl => ∃ k : Nat, k ≤ m ∧ i = .int .i64 k ∧ Only G w8 wl ∧ (m = 0 → wl = w8) ∧ (0 < m → ∃ cur, Blk wl G 5 cur ∧ ∀ j y, k ≤ j → j < m → (u8s d)[j]? = some y → cur[j]? = some y)) (fun i _ => m - (intOf i).toNat)
  case atStart => exact ⟨0, by omega, rfl, Only.refl _ _, fun _ => rfl, fun h => by obtain ⟨_, _, _, cur, h1, h2⟩ := HG.out h; exact ⟨cur, h1, fun j y _ hj hy => h2 j y hj hy⟩⟩
  case round =>
    obtain ⟨k, hk, rfl, ho, hz0, hcur⟩ := hrel
    have HO := Lib.hid ho
    have HZ0 := Lib.hid hz0
    have HCUR := Lib.hid hcur
    clear ho hz0 hcur
    by_cases hlt : k < m
    · have hlt' : (k : Int) < m := by omega
      have hm0 : 0 < m := by omega
      obtain ⟨hA, hmc, hown, _, hb0G, _⟩ := HG.out hm0
      obtain ⟨cur, hbl, hcells⟩ := HCUR.out hm0
      obtain ⟨y, hy⟩ : ∃ y, d[k]? = some y := ⟨_, List.getElem?_eq_getElem (by rw [HDL.out]; exact hlt)⟩
      have hck := hcells k _ (Nat.le_refl _) hlt (u8s_get hy)
      have y0 := hbl.cell k
      rw [hck] at y0
      have z0 := hbl.frozen k
      have hne := Blk.ne_ HM8.out hb0G (by decide)
      have HML := Lib.hid (HO.out.blk HM8.out hne)
      have x5 := HML.out.cell 5
      have hk0 : (0 : Int) ≤ k := by omega
      have HS2 : Hid (∀ v, Blk (wr.setCell ⟨G, k, none⟩ v) G 5 (cur.setIfInBounds k v)) := Lib.hid (fun v => Blk.set_ hbl k v)
      have HCC := Lib.hid hcells
      subst hA
      clear hck hy hbl hcells
      go_wp2_with fail
      go_roundw
      case rel =>
        refine ⟨k + 1, by omega, by go_num, HO.out.set_ _ _, fun h => absurd h (by omega), fun _ => ⟨_, HS2.out _, fun j y hj hjm hy => ?_⟩⟩
        rw [Array.getElem?_setIfInBounds, if_neg (by omega)]
        exact HCC.out j y (by omega) hjm hy
      case measure => simp [intOf]; omega
    · obtain rfl : k = m := by omega
      go_wp2_with fail
      go_ret2
      refine ⟨rfl, L', st', ?_⟩
      by_cases hm0 : k = 0
      · rw [HZ0.out hm0]; exact HFIN0.out
      · obtain ⟨_, _, hown, _⟩ := HG.out (by omega)
        exact HFIN.out _ G hown HO.out
theorem do_stamp (h : Duo w wr P R L st) (z i : Int) (r a b : Nat) (p s : Int) (x : List UInt8) (hx : x.length = n) (hs : Sl wr wr.heap.size 1 A0 n c0 (u8s x)) (hr : r < 18446744073709551616) (ha : a < 18446744073709551616) (hb : b < 18446744073709551616) (hz : 0 ≤ z ∧ z ≤ 255) (h4 : Int.tmod z 8 = 4) :
    Calls Try.prog 17 #[.pointer (some ⟨P, 0, none⟩), .pointer (some ⟨R, 0, none⟩), .agg #[.int .u8 z, .int .i64 i, .int .u64 r, .int .u64 a, .int .u64 b, .int .i64 p, .int .i64 s, .slice A0 n c0]] wr fun e w' => e = .returned (.tuple #[.pointer (some ⟨P, 0, none⟩), .bool true]) ∧ ∃ L' st', Duo w w' P R L' st' := by
  have HD := Lib.hid h
  have HS := Lib.hid hs
  obtain ⟨b0, hb0⟩ : ∃ b0, wr.heap.size = b0 := ⟨_, rfl⟩
  obtain ⟨W1, hW1⟩ : ∃ W1, wr.alloc (.cells #[.int .u8 z, .int .i64 i, .int .u64 r, .int .u64 a, .int .u64 b, .int .i64 p, .int .i64 s, .slice A0 n c0] 35) = W1 := ⟨_, rfl⟩
  have HO1 : Hid (Blk W1 b0 35 #[.int .u8 z, .int .i64 i, .int .u64 r, .int .u64 a, .int .u64 b, .int .i64 p, .int .i64 s, .slice A0 n c0]) := Lib.hid (by rw [← hW1, ← hb0]; exact Blk.new wr _ _)
  have HB1 : Hid (Below b0 wr W1) := Lib.hid (by rw [← hW1, ← hb0]; exact bel_alloc _ _)
  have HW1 := Lib.hid hW1
  have HBZ := Lib.hid hb0
  obtain ⟨d, hd⟩ : ∃ d, x.take 230 = d := ⟨_, rfl⟩
  obtain ⟨m, hm⟩ : ∃ m, min n 230 = m := ⟨_, rfl⟩
  have HDL : Hid (d.length = m) := Lib.hid (by rw [← hd, ← hm, List.length_take, hx]; omega)
  have hm230 : m ≤ 230 := by omega
  have HF : Hid (∀ w0, Sl w0 w0.heap.size 1 A0 n c0 (u8s x) → Calls Try.prog 37 #[.agg #[.int .u64 r, .int .u64 a, .int .u64 b, .int .i64 p, .int .i64 s, .slice A0 n c0]] w0 fun e w' => ∃ v, e = .returned (.agg #[.int .u64 r, .int .u64 a, .int .u64 b, .int .i64 p, .int .i64 s, v]) ∧ OwnB w' w0.heap.size v m (u8s d) ∧ Below w0.heap.size w0 w') := Lib.hid (fun w0 h0 => by have := few_any r a b p s A0 n c0 x w0 h0; rwa [hm, hd] at this)
  clear h hs hW1 hd hm
  go_enter Try.func17, Try.ntmps17
  go_wp2_with fail
  rw [HW1.out]
  refine (HF.out _ (HS.out.on (by rw [HBZ.out]; exact HB1.out))).mono ?_
  rintro e w2 ⟨v, rfl, hov, hb2⟩
  obtain ⟨Au, cu, rfl, _⟩ := Sl.of_own hov
  have hb1s : b0 ≤ W1.heap.size := Nat.le_of_lt (Blk.lt HO1.out)
  obtain ⟨T8, hT8⟩ : ∃ T8, w2.heap.size = T8 := ⟨_, rfl⟩
  obtain ⟨w3, hw3⟩ : ∃ w3, w2.alloc (.cells #[.int .u64 r, .int .u64 a, .int .u64 b, .int .i64 p, .int .i64 s, .slice Au m cu] 33) = w3 := ⟨_, rfl⟩
  have hb3 : Below W1.heap.size W1 w3 := by rw [← hw3]; exact bel_trans hb2 (bel_alloc _ _)
  have HO3 := Lib.hid (Blk.below HO1.out hb3 (Blk.lt HO1.out))
  have HT3 : Hid (Blk w3 T8 33 #[.int .u64 r, .int .u64 a, .int .u64 b, .int .i64 p, .int .i64 s, .slice Au m cu]) := Lib.hid (by rw [← hw3, ← hT8]; exact Blk.new w2 _ _)
  have HU3 : Hid (OwnB w3 b0 (.slice Au m cu) m (u8s d)) := Lib.hid (by rw [← hw3]; exact own_mono (World.ownsRow.alloc hov _) hb1s)
  have HB3 : Hid (Below b0 wr w3) := Lib.hid (HB1.out.trans (hb3.mono hb1s))
  have HD3 := Lib.hid (HD.out.below (by rw [HBZ.out]; exact HB3.out))
  have HW3 : Hid (w2.alloc (.cells #[.int .u64 r, .int .u64 a, .int .u64 b, .int .i64 p, .int .i64 s, .slice Au m cu] 33) = w3 ∧ w2.heap.size = T8 ∧ b0 ≤ T8) := Lib.hid ⟨hw3, hT8, by rw [← hT8]; exact Nat.le_trans hb1s hb2.size⟩
  clear hov hb2 hb1s hT8 hw3 hb3
  go_upto_region 2 with fail
  rw [HW3.out.1, HW3.out.2.1]
  have o0 := HO3.out.cell 0
  have o1 := HO3.out.cell 1
  obtain ⟨hHp, ⟨F, E, A, c, hE, hR, hFP, hFB⟩, hwP, hbel⟩ := HD.out
  have hbP : b0 ≠ P := by have := hHp.lt; have := HBZ.out; omega
  have hFb : ¬ F b0 := fun hg => by have := hR.lt b0 hg; have := HBZ.out; omega
  have hTb : b0 ≤ T8 := HW3.out.2.2
  have hTP : T8 ≠ P := by have := hHp.lt; have := HBZ.out; omega
  have hFT : ¬ F T8 := fun hg => by have := hR.lt T8 hg; have := HBZ.out; omega
  have hlb := Blk.lt HO3.out
  have hlT := Blk.lt HT3.out
  have hbelw : Below wr.heap.size wr w3 → Below w.heap.size w w3 := fun k => hbel.trans (k.mono hbel.size)
  have HFL : Hid (∀ g, F g → g < b0) := Lib.hid (fun g hg => by have := hR.lt g hg; have := HBZ.out; omega)
  have HBW := Lib.hid (hbelw (by rw [HBZ.out]; exact HB3.out))
  have HH := Lib.hid (And.intro (hHp.below (by rw [HBZ.out]; exact HB3.out) hHp.lt) (And.intro (hR.below (by rw [HBZ.out]; exact HB3.out)) (And.intro hFP (And.intro hFB (And.intro hwP hbel)))))
  obtain ⟨y, hy⟩ : ∃ y, stampR L i b p s = y := ⟨_, rfl⟩
  obtain ⟨xr, L'⟩ := y
  have HCP : Hid (∀ w0, Hp w0 P L st → Calls Try.prog 38 #[.pointer (some ⟨P, 0, none⟩), .int .i64 i, .int .u64 b, .agg #[.int .i64 p, .int .i64 s]] w0 fun e w' => e = .returned (.int .i64 xr) ∧ Hp w' P L' st ∧ Only P w0 w') := Lib.hid (fun w0 h0 => by have := stampP h0 i b p s; rwa [hy] at this)
  have HCR : Hid (∀ w0, RfA w0 F R E st A c → Calls Try.prog 62 #[.pointer (some ⟨R, 0, none⟩), .int .i64 i, .int .u64 b, .agg #[.int .i64 p, .int .i64 s]] w0 fun e w' => e = .returned (.int .i64 xr) ∧ (∃ E', E'.map Prod.fst = L' ∧ RfA w' F R E' st A c) ∧ Turn F w0 w') := Lib.hid (fun w0 h0 => by have := stampF h0 hE i b p s; rwa [hy] at this)
  clear hy hHp hR hFP hFB hwP hbel hE
  go_wp2_with fail
  have t2 := HT3.out.cell 2
  have t3 := HT3.out.cell 3
  have t4 := HT3.out.cell 4
  go_region_held3 (fun w' => w'.cell? ⟨b0, 1, none⟩ = some (.int .i64 i) ∧ w'.cell? ⟨T8, 2, none⟩ = some (.int .u64 b) ∧ w'.cell? ⟨T8, 3, none⟩ = some (.int .i64 p) ∧ w'.cell? ⟨T8, 4, none⟩ = some (.int .i64 s)) (first | go_keep | exact ⟨ho4.cell (p := ⟨b0, 1, none⟩) hlb hbP (HO3.out.cell 1), ho4.cell (p := ⟨T8, 2, none⟩) hlT hTP (HT3.out.cell 2), ho4.cell (p := ⟨T8, 3, none⟩) hlT hTP (HT3.out.cell 3), ho4.cell (p := ⟨T8, 4, none⟩) hlT hTP (HT3.out.cell 4)⟩ | exact ⟨ht5.cell (p := ⟨b0, 1, none⟩) (Nat.lt_of_lt_of_le hlb ho4.size) hFb (ho4.cell (p := ⟨b0, 1, none⟩) hlb hbP (HO3.out.cell 1)), ht5.cell (p := ⟨T8, 2, none⟩) (Nat.lt_of_lt_of_le hlT ho4.size) hFT (ho4.cell (p := ⟨T8, 2, none⟩) hlT hTP (HT3.out.cell 2)), ht5.cell (p := ⟨T8, 3, none⟩) (Nat.lt_of_lt_of_le hlT ho4.size) hFT (ho4.cell (p := ⟨T8, 3, none⟩) hlT hTP (HT3.out.cell 3)), ht5.cell (p := ⟨T8, 4, none⟩) (Nat.lt_of_lt_of_le hlT ho4.size) hFT (ho4.cell (p := ⟨T8, 4, none⟩) hlT hTP (HT3.out.cell 4))⟩)
    (first
      | (go_at_call 38; refine (HCP.out _ HH.out.1.drew).mono ?_; rintro e w4 ⟨rfl, hp4, ho4⟩)
      | (go_at_call 62; refine (HCR.out _ ((HH.out.2.1).drew.only ho4 HH.out.2.2.1)).mono ?_; rintro e w5 ⟨rfl, ⟨E5, hE5, hr5⟩, ht5⟩))
  go_wp2_with fail
  go_ret2
  exact ⟨rfl, L', st, Duo.two (hbelw (by rw [HBZ.out]; exact HB3.out)) hp4 ((Only.refl P w3).drew.trans ho4) hE5 hr5 ht5 HH.out.2.2.1 HH.out.2.2.1 HH.out.2.2.2.1 HH.out.2.2.2.1 HH.out.2.2.2.2.1⟩
theorem do_free5 (h : Duo w wr P R L st) (z i : Int) (r a b : Nat) (p s : Int) (x : List UInt8) (hx : x.length = n) (hs : Sl wr wr.heap.size 1 A0 n c0 (u8s x)) (hr : r < 18446744073709551616) (ha : a < 18446744073709551616) (hb : b < 18446744073709551616) (hz : 0 ≤ z ∧ z ≤ 255) (h4 : Int.tmod z 8 = 5) :
    Calls Try.prog 17 #[.pointer (some ⟨P, 0, none⟩), .pointer (some ⟨R, 0, none⟩), .agg #[.int .u8 z, .int .i64 i, .int .u64 r, .int .u64 a, .int .u64 b, .int .i64 p, .int .i64 s, .slice A0 n c0]] wr fun e w' => e = .returned (.tuple #[.pointer (some ⟨P, 0, none⟩), .bool true]) ∧ ∃ L' st', Duo w w' P R L' st' := by
  have HD := Lib.hid h
  have HS := Lib.hid hs
  obtain ⟨b0, hb0⟩ : ∃ b0, wr.heap.size = b0 := ⟨_, rfl⟩
  obtain ⟨W1, hW1⟩ : ∃ W1, wr.alloc (.cells #[.int .u8 z, .int .i64 i, .int .u64 r, .int .u64 a, .int .u64 b, .int .i64 p, .int .i64 s, .slice A0 n c0] 35) = W1 := ⟨_, rfl⟩
  have HO1 : Hid (Blk W1 b0 35 #[.int .u8 z, .int .i64 i, .int .u64 r, .int .u64 a, .int .u64 b, .int .i64 p, .int .i64 s, .slice A0 n c0]) := Lib.hid (by rw [← hW1, ← hb0]; exact Blk.new wr _ _)
  have HB1 : Hid (Below b0 wr W1) := Lib.hid (by rw [← hW1, ← hb0]; exact bel_alloc _ _)
  have HW1 := Lib.hid hW1
  have HBZ := Lib.hid hb0
  obtain ⟨d, hd⟩ : ∃ d, x.take 230 = d := ⟨_, rfl⟩
  obtain ⟨m, hm⟩ : ∃ m, min n 230 = m := ⟨_, rfl⟩
  have HDL : Hid (d.length = m) := Lib.hid (by rw [← hd, ← hm, List.length_take, hx]; omega)
  have hm230 : m ≤ 230 := by omega
  have HF : Hid (∀ w0, Sl w0 w0.heap.size 1 A0 n c0 (u8s x) → Calls Try.prog 37 #[.agg #[.int .u64 r, .int .u64 a, .int .u64 b, .int .i64 p, .int .i64 s, .slice A0 n c0]] w0 fun e w' => ∃ v, e = .returned (.agg #[.int .u64 r, .int .u64 a, .int .u64 b, .int .i64 p, .int .i64 s, v]) ∧ OwnB w' w0.heap.size v m (u8s d) ∧ Below w0.heap.size w0 w') := Lib.hid (fun w0 h0 => by have := few_any r a b p s A0 n c0 x w0 h0; rwa [hm, hd] at this)
  clear h hs hW1 hd hm
  go_enter Try.func17, Try.ntmps17
  go_wp2_with fail
  rw [HW1.out]
  refine (HF.out _ (HS.out.on (by rw [HBZ.out]; exact HB1.out))).mono ?_
  rintro e w2 ⟨v, rfl, hov, hb2⟩
  obtain ⟨Au, cu, rfl, _⟩ := Sl.of_own hov
  have hb1s : b0 ≤ W1.heap.size := Nat.le_of_lt (Blk.lt HO1.out)
  obtain ⟨T8, hT8⟩ : ∃ T8, w2.heap.size = T8 := ⟨_, rfl⟩
  obtain ⟨w3, hw3⟩ : ∃ w3, w2.alloc (.cells #[.int .u64 r, .int .u64 a, .int .u64 b, .int .i64 p, .int .i64 s, .slice Au m cu] 33) = w3 := ⟨_, rfl⟩
  have hb3 : Below W1.heap.size W1 w3 := by rw [← hw3]; exact bel_trans hb2 (bel_alloc _ _)
  have HO3 := Lib.hid (Blk.below HO1.out hb3 (Blk.lt HO1.out))
  have HT3 : Hid (Blk w3 T8 33 #[.int .u64 r, .int .u64 a, .int .u64 b, .int .i64 p, .int .i64 s, .slice Au m cu]) := Lib.hid (by rw [← hw3, ← hT8]; exact Blk.new w2 _ _)
  have HU3 : Hid (OwnB w3 b0 (.slice Au m cu) m (u8s d)) := Lib.hid (by rw [← hw3]; exact own_mono (World.ownsRow.alloc hov _) hb1s)
  have HB3 : Hid (Below b0 wr w3) := Lib.hid (HB1.out.trans (hb3.mono hb1s))
  have HD3 := Lib.hid (HD.out.below (by rw [HBZ.out]; exact HB3.out))
  have HW3 : Hid (w2.alloc (.cells #[.int .u64 r, .int .u64 a, .int .u64 b, .int .i64 p, .int .i64 s, .slice Au m cu] 33) = w3 ∧ w2.heap.size = T8 ∧ b0 ≤ T8) := Lib.hid ⟨hw3, hT8, by rw [← hT8]; exact Nat.le_trans hb1s hb2.size⟩
  clear hov hb2 hb1s hT8 hw3 hb3
  go_upto_region 2 with fail
  rw [HW3.out.1, HW3.out.2.1]
  have o0 := HO3.out.cell 0
  have o1 := HO3.out.cell 1
  obtain ⟨hHp, ⟨F, E, A, c, hE, hR, hFP, hFB⟩, hwP, hbel⟩ := HD.out
  have hbP : b0 ≠ P := by have := hHp.lt; have := HBZ.out; omega
  have hFb : ¬ F b0 := fun hg => by have := hR.lt b0 hg; have := HBZ.out; omega
  have hTb : b0 ≤ T8 := HW3.out.2.2
  have hTP : T8 ≠ P := by have := hHp.lt; have := HBZ.out; omega
  have hFT : ¬ F T8 := fun hg => by have := hR.lt T8 hg; have := HBZ.out; omega
  have hlb := Blk.lt HO3.out
  have hlT := Blk.lt HT3.out
  have hbelw : Below wr.heap.size wr w3 → Below w.heap.size w w3 := fun k => hbel.trans (k.mono hbel.size)
  have HFL : Hid (∀ g, F g → g < b0) := Lib.hid (fun g hg => by have := hR.lt g hg; have := HBZ.out; omega)
  have HBW := Lib.hid (hbelw (by rw [HBZ.out]; exact HB3.out))
  have HH := Lib.hid (And.intro (hHp.below (by rw [HBZ.out]; exact HB3.out) hHp.lt) (And.intro (hR.below (by rw [HBZ.out]; exact HB3.out)) (And.intro hFP (And.intro hFB (And.intro hwP hbel)))))
  obtain ⟨xr, L', hft⟩ := free_ex L i
  have HCP : Hid (∀ w0, Hp w0 P L st → Calls Try.prog 35 #[.pointer (some ⟨P, 0, none⟩), .int .i64 i] w0 fun e w' => e = .returned (.int .i64 xr) ∧ Hp w' P L' st ∧ Only P w0 w') := Lib.hid (fun w0 h0 => freeP h0 i xr L' hft)
  have HCR : Hid (∀ w0, RfA w0 F R E st A c → Calls Try.prog 63 #[.pointer (some ⟨R, 0, none⟩), .int .i64 i] w0 fun e w' => e = .returned (.int .i64 xr) ∧ (∃ E', E'.map Prod.fst = L' ∧ RfA w' F R E' st A c) ∧ Turn F w0 w') := Lib.hid (fun w0 h0 => freeF h0 hE i xr L' hft)
  clear hft hHp hR hFP hFB hwP hbel hE
  go_wp2_with fail
  go_region_held3 (fun w' => w'.cell? ⟨b0, 1, none⟩ = some (.int .i64 i)) (first | go_keep | exact ho4.cell (p := ⟨b0, 1, none⟩) hlb hbP (HO3.out.cell 1) | exact ht5.cell (p := ⟨b0, 1, none⟩) (Nat.lt_of_lt_of_le hlb ho4.size) hFb (ho4.cell (p := ⟨b0, 1, none⟩) hlb hbP (HO3.out.cell 1)))
    (first
      | (go_at_call 35; refine (HCP.out _ HH.out.1.drew).mono ?_; rintro e w4 ⟨rfl, hp4, ho4⟩)
      | (go_at_call 63; refine (HCR.out _ ((HH.out.2.1).drew.only ho4 HH.out.2.2.1)).mono ?_; rintro e w5 ⟨rfl, ⟨E5, hE5, hr5⟩, ht5⟩))
  go_wp2_with fail
  go_ret2
  exact ⟨rfl, L', st, Duo.two (hbelw (by rw [HBZ.out]; exact HB3.out)) hp4 ((Only.refl P w3).drew.trans ho4) hE5 hr5 ht5 HH.out.2.2.1 HH.out.2.2.1 HH.out.2.2.2.1 HH.out.2.2.2.1 HH.out.2.2.2.2.1⟩
theorem do_free6 (h : Duo w wr P R L st) (z i : Int) (r a b : Nat) (p s : Int) (x : List UInt8) (hx : x.length = n) (hs : Sl wr wr.heap.size 1 A0 n c0 (u8s x)) (hr : r < 18446744073709551616) (ha : a < 18446744073709551616) (hb : b < 18446744073709551616) (hz : 0 ≤ z ∧ z ≤ 255) (h4 : Int.tmod z 8 = 6) :
    Calls Try.prog 17 #[.pointer (some ⟨P, 0, none⟩), .pointer (some ⟨R, 0, none⟩), .agg #[.int .u8 z, .int .i64 i, .int .u64 r, .int .u64 a, .int .u64 b, .int .i64 p, .int .i64 s, .slice A0 n c0]] wr fun e w' => e = .returned (.tuple #[.pointer (some ⟨P, 0, none⟩), .bool true]) ∧ ∃ L' st', Duo w w' P R L' st' := by
  have HD := Lib.hid h
  have HS := Lib.hid hs
  obtain ⟨b0, hb0⟩ : ∃ b0, wr.heap.size = b0 := ⟨_, rfl⟩
  obtain ⟨W1, hW1⟩ : ∃ W1, wr.alloc (.cells #[.int .u8 z, .int .i64 i, .int .u64 r, .int .u64 a, .int .u64 b, .int .i64 p, .int .i64 s, .slice A0 n c0] 35) = W1 := ⟨_, rfl⟩
  have HO1 : Hid (Blk W1 b0 35 #[.int .u8 z, .int .i64 i, .int .u64 r, .int .u64 a, .int .u64 b, .int .i64 p, .int .i64 s, .slice A0 n c0]) := Lib.hid (by rw [← hW1, ← hb0]; exact Blk.new wr _ _)
  have HB1 : Hid (Below b0 wr W1) := Lib.hid (by rw [← hW1, ← hb0]; exact bel_alloc _ _)
  have HW1 := Lib.hid hW1
  have HBZ := Lib.hid hb0
  obtain ⟨d, hd⟩ : ∃ d, x.take 230 = d := ⟨_, rfl⟩
  obtain ⟨m, hm⟩ : ∃ m, min n 230 = m := ⟨_, rfl⟩
  have HDL : Hid (d.length = m) := Lib.hid (by rw [← hd, ← hm, List.length_take, hx]; omega)
  have hm230 : m ≤ 230 := by omega
  have HF : Hid (∀ w0, Sl w0 w0.heap.size 1 A0 n c0 (u8s x) → Calls Try.prog 37 #[.agg #[.int .u64 r, .int .u64 a, .int .u64 b, .int .i64 p, .int .i64 s, .slice A0 n c0]] w0 fun e w' => ∃ v, e = .returned (.agg #[.int .u64 r, .int .u64 a, .int .u64 b, .int .i64 p, .int .i64 s, v]) ∧ OwnB w' w0.heap.size v m (u8s d) ∧ Below w0.heap.size w0 w') := Lib.hid (fun w0 h0 => by have := few_any r a b p s A0 n c0 x w0 h0; rwa [hm, hd] at this)
  clear h hs hW1 hd hm
  go_enter Try.func17, Try.ntmps17
  go_wp2_with fail
  rw [HW1.out]
  refine (HF.out _ (HS.out.on (by rw [HBZ.out]; exact HB1.out))).mono ?_
  rintro e w2 ⟨v, rfl, hov, hb2⟩
  obtain ⟨Au, cu, rfl, _⟩ := Sl.of_own hov
  have hb1s : b0 ≤ W1.heap.size := Nat.le_of_lt (Blk.lt HO1.out)
  obtain ⟨T8, hT8⟩ : ∃ T8, w2.heap.size = T8 := ⟨_, rfl⟩
  obtain ⟨w3, hw3⟩ : ∃ w3, w2.alloc (.cells #[.int .u64 r, .int .u64 a, .int .u64 b, .int .i64 p, .int .i64 s, .slice Au m cu] 33) = w3 := ⟨_, rfl⟩
  have hb3 : Below W1.heap.size W1 w3 := by rw [← hw3]; exact bel_trans hb2 (bel_alloc _ _)
  have HO3 := Lib.hid (Blk.below HO1.out hb3 (Blk.lt HO1.out))
  have HT3 : Hid (Blk w3 T8 33 #[.int .u64 r, .int .u64 a, .int .u64 b, .int .i64 p, .int .i64 s, .slice Au m cu]) := Lib.hid (by rw [← hw3, ← hT8]; exact Blk.new w2 _ _)
  have HU3 : Hid (OwnB w3 b0 (.slice Au m cu) m (u8s d)) := Lib.hid (by rw [← hw3]; exact own_mono (World.ownsRow.alloc hov _) hb1s)
  have HB3 : Hid (Below b0 wr w3) := Lib.hid (HB1.out.trans (hb3.mono hb1s))
  have HD3 := Lib.hid (HD.out.below (by rw [HBZ.out]; exact HB3.out))
  have HW3 : Hid (w2.alloc (.cells #[.int .u64 r, .int .u64 a, .int .u64 b, .int .i64 p, .int .i64 s, .slice Au m cu] 33) = w3 ∧ w2.heap.size = T8 ∧ b0 ≤ T8) := Lib.hid ⟨hw3, hT8, by rw [← hT8]; exact Nat.le_trans hb1s hb2.size⟩
  clear hov hb2 hb1s hT8 hw3 hb3
  go_upto_region 2 with fail
  rw [HW3.out.1, HW3.out.2.1]
  have o0 := HO3.out.cell 0
  have o1 := HO3.out.cell 1
  obtain ⟨hHp, ⟨F, E, A, c, hE, hR, hFP, hFB⟩, hwP, hbel⟩ := HD.out
  have hbP : b0 ≠ P := by have := hHp.lt; have := HBZ.out; omega
  have hFb : ¬ F b0 := fun hg => by have := hR.lt b0 hg; have := HBZ.out; omega
  have hTb : b0 ≤ T8 := HW3.out.2.2
  have hTP : T8 ≠ P := by have := hHp.lt; have := HBZ.out; omega
  have hFT : ¬ F T8 := fun hg => by have := hR.lt T8 hg; have := HBZ.out; omega
  have hlb := Blk.lt HO3.out
  have hlT := Blk.lt HT3.out
  have hbelw : Below wr.heap.size wr w3 → Below w.heap.size w w3 := fun k => hbel.trans (k.mono hbel.size)
  have HFL : Hid (∀ g, F g → g < b0) := Lib.hid (fun g hg => by have := hR.lt g hg; have := HBZ.out; omega)
  have HBW := Lib.hid (hbelw (by rw [HBZ.out]; exact HB3.out))
  have HH := Lib.hid (And.intro (hHp.below (by rw [HBZ.out]; exact HB3.out) hHp.lt) (And.intro (hR.below (by rw [HBZ.out]; exact HB3.out)) (And.intro hFP (And.intro hFB (And.intro hwP hbel)))))
  obtain ⟨xr, L', hft⟩ := free_ex L i
  have HCP : Hid (∀ w0, Hp w0 P L st → Calls Try.prog 35 #[.pointer (some ⟨P, 0, none⟩), .int .i64 i] w0 fun e w' => e = .returned (.int .i64 xr) ∧ Hp w' P L' st ∧ Only P w0 w') := Lib.hid (fun w0 h0 => freeP h0 i xr L' hft)
  have HCR : Hid (∀ w0, RfA w0 F R E st A c → Calls Try.prog 63 #[.pointer (some ⟨R, 0, none⟩), .int .i64 i] w0 fun e w' => e = .returned (.int .i64 xr) ∧ (∃ E', E'.map Prod.fst = L' ∧ RfA w' F R E' st A c) ∧ Turn F w0 w') := Lib.hid (fun w0 h0 => freeF h0 hE i xr L' hft)
  clear hft hHp hR hFP hFB hwP hbel hE
  go_wp2_with fail
  go_region_held3 (fun w' => w'.cell? ⟨b0, 1, none⟩ = some (.int .i64 i)) (first | go_keep | exact ho4.cell (p := ⟨b0, 1, none⟩) hlb hbP (HO3.out.cell 1) | exact ht5.cell (p := ⟨b0, 1, none⟩) (Nat.lt_of_lt_of_le hlb ho4.size) hFb (ho4.cell (p := ⟨b0, 1, none⟩) hlb hbP (HO3.out.cell 1)))
    (first
      | (go_at_call 35; refine (HCP.out _ HH.out.1.drew).mono ?_; rintro e w4 ⟨rfl, hp4, ho4⟩)
      | (go_at_call 63; refine (HCR.out _ ((HH.out.2.1).drew.only ho4 HH.out.2.2.1)).mono ?_; rintro e w5 ⟨rfl, ⟨E5, hE5, hr5⟩, ht5⟩))
  go_wp2_with fail
  go_ret2
  exact ⟨rfl, L', st, Duo.two (hbelw (by rw [HBZ.out]; exact HB3.out)) hp4 ((Only.refl P w3).drew.trans ho4) hE5 hr5 ht5 HH.out.2.2.1 HH.out.2.2.1 HH.out.2.2.2.1 HH.out.2.2.2.1 HH.out.2.2.2.2.1⟩
end
end Go.Proofs.Ythghnhcopmmmpaa.Mem
/- A version, a place among the arguments: opened. -/
namespace Go.Proofs.Ythghnhcopmmmpaa.Mem
open Go.RowKit Go.Proofs.Ythghnhcopmmmpaa.Nums Go.ChangeShapes Go.WideShapes Go.Deep Go.Joins
set_option linter.unusedVariables false
set_option linter.unusedSimpArgs false
set_option maxRecDepth 100000
theorem list_of {α : Type} (P : Nat → α → Prop) : ∀ n, (∀ i, i < n → ∃ v, P i v) → ∃ l : List α, l.length = n ∧ ∀ i v, l[i]? = some v → P i v
  | 0, _ => ⟨[], rfl, fun i v h => by simp at h⟩
  | n + 1, h => by
    obtain ⟨l, hl, hp⟩ := list_of P n (fun i hi => h i (by omega))
    obtain ⟨v, hv⟩ := h n (by omega)
    refine ⟨l ++ [v], by simp [hl], fun i u hu => ?_⟩
    by_cases hi : i < n
    · rw [List.getElem?_append_left (by omega)] at hu
      exact hp i u hu
    · have hin : i = n := by
        have := (List.getElem?_eq_some_iff.1 hu).1
        rw [List.length_append, hl] at this
        simp at this
        omega
      subst hin
      rw [← hl, List.getElem?_append_right (Nat.le_refl _), Nat.sub_self] at hu
      simp at hu
      subst hu
      exact hv
theorem u64_nat {x : Int} (h : (Lit.int .u64 x).wf = true) : ∃ n : Nat, x = n ∧ n < 18446744073709551616 := by
  have := h
  simp [Lit.wf, IntKind.min, IntKind.max, IntKind.signed, IntKind.bits] at this
  exact ⟨x.toNat, by omega, by omega⟩
theorem array6 {α : Type} {cs : Array α} (h : cs.size = 6) : ∃ c0 c1 c2 c3 c4 c5, cs = #[c0, c1, c2, c3, c4, c5] := by
  obtain ⟨l⟩ := cs
  match l, h with
  | [c0, c1, c2, c3, c4, c5], _ => exact ⟨c0, c1, c2, c3, c4, c5, rfl⟩
section
variable {H : Type} {enc : TypeId × Value → H} {w : World} {base : Nat} {spare : Nat → Bool} {held : Bool}
theorem bytes_of {n : Nat} {cs : List Value} {y : DataW H × List MemPlace} (hf : DataW.trod enc Try.prog w base spare held n 31 cs = some y) :
    ∃ A m c x, cs = [.slice A m c] ∧ x.length = m ∧ Sl w w.heap.size 1 A m c (u8s x) := by
  rcases open_ints Try.underlying31 Try.underlying5 (by kernel_rfl) hf with ⟨hcs, _⟩ | ⟨a, len, cap, zs, hcs, hb, hl, hm, hz, hx, hc, hw⟩
  · exact ⟨none, 0, 0, [], hcs, rfl, ⟨rfl, Nat.le_refl _, by unfold maxLen; omega, fun _ => rfl, fun h => absurd h (by omega)⟩⟩
  · have hlz : len ≤ zs.length := by rw [hz]; split <;> omega
    obtain ⟨x, hxl, hxp⟩ := list_of (fun i (u : UInt8) => w.cell? (a.add i) = some (.int .u8 (u.toNat : Int))) len (fun i hi => by
      have hw' := hw (zs.getD i 0) (by rw [List.getD, List.getElem?_eq_getElem (by omega)]; exact List.getElem_mem _)
      have hb : 0 ≤ zs.getD i 0 ∧ zs.getD i 0 ≤ 255 := by
        have := hw'
        simp [Lit.wf, IntKind.min, IntKind.max, IntKind.signed, IntKind.bits] at this
        simp
        omega
      refine ⟨UInt8.ofNat (zs.getD i 0).toNat, ?_⟩
      rw [hc i (by omega)]
      congr 2
      rw [UInt8.toNat_ofNat']
      omega)
    refine ⟨some a, len, cap, x, hcs, hxl, ⟨by rw [u8s_len, hxl, Nat.mul_one], hl, hm, (fun e => by cases e), fun hn => ⟨a, rfl, ?_, ?_⟩⟩⟩
    · have := World.block_lt_of_cell? w _ (hxp 0 _ (List.getElem?_eq_getElem (by omega)))
      rw [add_block] at this
      exact this
    · intro j u hu
      have hj : j < x.length := by have := (List.getElem?_eq_some_iff.1 hu).1; rw [u8s_len] at this; exact this
      have hq : x[j]? = some (x[j]'hj) := List.getElem?_eq_getElem _
      have : (u8s x)[j]? = some (.int .u8 ((x[j]'hj).toNat : Int)) := by simp [u8s, hq]
      rw [this] at hu
      injection hu with hu
      rw [← hu]
      exact hxp j _ hq
theorem tid_of {n : Nat} {c3 c4 : Value} {y : DataW H × List MemPlace} (h : DataW.trod enc Try.prog w base spare held n 30 [c3, c4] = some y) : ∃ p s : Int, c3 = .int .i64 p ∧ c4 = .int .i64 s := by
  obtain ⟨y0, y1, m, hx, hl, h0, h1⟩ := trod_struct2 Try.underlying30 h
  have e0 : Try.prog.cellsOf 3 = 1 := by kernel_rfl
  simp only [e0, List.drop, List.take] at h0 h1
  obtain ⟨a, ha, -, wa⟩ := DataW.trod_int Try.underlying3 h0
  obtain ⟨b, hb, -, wb⟩ := DataW.trod_int Try.underlying3 h1
  simp only [List.cons.injEq, and_true] at ha hb
  exact ⟨a, b, ha, hb⟩
theorem open_tid {r : Reach} {b0 : Nat} {v : Value} {d : DataW H} {p : List MemPlace} (hval : Value.okWide Try.prog w r b0 30 v) (h : DataW.Trod enc Try.prog w base spare held 30 v d p) :
    ∃ p2 s2 : Int, v = .agg #[.int .i64 p2, .int .i64 s2] := by
  obtain ⟨cs, rfl, hsz⟩ := okWide_struct Try.underlying30 hval
  obtain ⟨c0, c1, rfl⟩ := array2 (hsz.trans (show Try.prog.cellsOf 30 = 2 by kernel_rfl))
  obtain ⟨fuel, hf⟩ := h
  obtain ⟨p2, s2, rfl, rfl⟩ := tid_of (c3 := c0) (c4 := c1) hf
  exact ⟨p2, s2, rfl⟩
theorem open_tuple {r : Reach} {b0 : Nat} {v : Value} {dd : DataW H} {pp : List MemPlace} (hval : Value.okWide Try.prog w r b0 33 v) (h : DataW.Trod enc Try.prog w base spare held 33 v dd pp) :
    ∃ (a b c : Nat) (p s : Int) (A : Option Addr) (n k : Nat) (x : List UInt8), v = .agg #[.int .u64 a, .int .u64 b, .int .u64 c, .int .i64 p, .int .i64 s, .slice A n k] ∧ x.length = n ∧ Sl w w.heap.size 1 A n k (u8s x) ∧ a < 18446744073709551616 ∧ b < 18446744073709551616 ∧ c < 18446744073709551616 := by
  obtain ⟨cs, rfl, hsz⟩ := okWide_struct Try.underlying33 hval
  obtain ⟨c0, c1, c2, c3, c4, c5, rfl⟩ := array6 (hsz.trans (show Try.prog.cellsOf 33 = 6 by kernel_rfl))
  obtain ⟨fuel, hf⟩ := h
  obtain ⟨xs, n, _, _, hl, hlen, hfs⟩ := DataW.trod_struct Try.underlying33 hf
  match xs, hlen with
  | [y0, y1, y2, y3, y4], _ =>
    have h0 := hfs 0 _ rfl
    have h1 := hfs 1 _ rfl
    have h2 := hfs 2 _ rfl
    have h3 := hfs 3 _ rfl
    have h4 := hfs 4 _ rfl
    have e0 : Try.prog.cellsOf 28 = 1 := by kernel_rfl
    have e1 : Try.prog.cellsOf 30 = 2 := by kernel_rfl
    have e2 : Try.prog.cellsOf 31 = 1 := by kernel_rfl
    simp [e0, e1, e2, Value.cells] at h0 h1 h2 h3 h4
    obtain ⟨a, ha, -, wa⟩ := DataW.trod_int Try.underlying28 h0
    obtain ⟨b, hb, -, wb⟩ := DataW.trod_int Try.underlying28 h1
    obtain ⟨c, hc, -, wc⟩ := DataW.trod_int Try.underlying28 h2
    obtain ⟨p, s, hp, hs⟩ := tid_of h3
    obtain ⟨A, m, k, x, hx, hxl, hxs⟩ := bytes_of h4
    simp only [List.cons.injEq, and_true] at ha hb hc hx
    obtain ⟨a, rfl, la⟩ := u64_nat wa
    obtain ⟨b, rfl, lb⟩ := u64_nat wb
    obtain ⟨c, rfl, lc⟩ := u64_nat wc
    subst ha hb hc hp hs hx
    exact ⟨a, b, c, p, s, A, m, k, x, rfl, hxl, hxs, la, lb, lc⟩
end
end Go.Proofs.Ythghnhcopmmmpaa.Mem
/- A slice of bytes among the arguments: opened. -/
namespace Go.Proofs.Ythghnhcopmmmpaa.Mem
open Go.RowKit Go.Proofs.Ythghnhcopmmmpaa.Nums Go.ChangeShapes Go.WideShapes Go.Deep Go.Joins
set_option linter.unusedVariables false
set_option linter.unusedSimpArgs false
set_option maxRecDepth 100000
section
variable {H : Type} {enc : TypeId × Value → H} {w : World} {base : Nat} {spare : Nat → Bool} {held : Bool}
theorem open_bytes {r : Reach} {b0 : Nat} {v : Value} {d : DataW H} {p : List MemPlace} (hval : Value.okWide Try.prog w r b0 31 v) (h : DataW.Trod enc Try.prog w base spare held 31 v d p) :
    ∃ A n c x, v = .slice A n c ∧ x.length = n ∧ Sl w w.heap.size 1 A n c (u8s x) := by
  obtain ⟨a0, n0, c0, rfl⟩ := okWide_slice Try.underlying31 hval
  obtain ⟨fuel, hf⟩ := h
  obtain ⟨A, m, c, x, hcs, hl, hs⟩ := bytes_of hf
  have : (Value.slice a0 n0 c0) = .slice A m c := by simpa [Value.cells] using hcs
  rw [this]
  exact ⟨A, m, c, x, rfl, hl, hs⟩
end
end Go.Proofs.Ythghnhcopmmmpaa.Mem
/- A script's operations among the arguments: opened. -/
namespace Go.Proofs.Ythghnhcopmmmpaa.Mem
open Go.RowKit Go.Proofs.Ythghnhcopmmmpaa.Nums Go.ChangeShapes Go.WideShapes Go.Deep Go.Joins
set_option linter.unusedVariables false
set_option linter.unusedSimpArgs false
set_option maxRecDepth 100000
/-- an operation: its number, its slot, its version with the Data's slice and the Data -/
structure Op5 where
  z : Int
  i : Int
  r : Nat
  a : Nat
  b : Nat
  p : Int
  s : Int
  A : Option Addr
  n : Nat
  c : Nat
  x : List UInt8
def Op5.cells (o : Op5) : List Value := [.int .u8 o.z, .int .i64 o.i, .int .u64 o.r, .int .u64 o.a, .int .u64 o.b, .int .i64 o.p, .int .i64 o.s, .slice o.A o.n o.c]
structure Op5.ok (o : Op5) (w : World) : Prop where
  z : 0 ≤ o.z ∧ o.z ≤ 255
  i : Nums.In64 o.i
  r : o.r < 18446744073709551616
  a : o.a < 18446744073709551616
  b : o.b < 18446744073709551616
  len : o.x.length = o.n
  sl : Sl w w.heap.size 1 o.A o.n o.c (u8s o.x)
def ops5 (l : List Op5) : List Value := l.flatMap Op5.cells
theorem ops5_len (l : List Op5) : (ops5 l).length = l.length * 8 := by
  induction l with
  | nil => rfl
  | cons o l ih => show (o.cells ++ ops5 l).length = _; rw [List.length_append, ih, List.length_cons]; show 8 + _ = _; omega
theorem ops5_at : ∀ (l : List Op5) (k : Nat) (o : Op5), l[k]? = some o → ∀ j, j < 8 → (ops5 l)[k * 8 + j]? = o.cells[j]?
  | [], k, o, h, j, hj => by simp at h
  | y :: l, 0, o, h, j, hj => by
    simp at h; subst h
    show (y.cells ++ ops5 l)[0 * 8 + j]? = _
    rw [Nat.zero_mul, Nat.zero_add, List.getElem?_append_left (show j < y.cells.length from hj)]
  | y :: l, k + 1, o, h, j, hj => by
    show (y.cells ++ ops5 l)[(k + 1) * 8 + j]? = _
    have e : y.cells.length = 8 := rfl
    rw [List.getElem?_append_right (by omega), e, show (k + 1) * 8 + j - 8 = k * 8 + j by omega]
    exact ops5_at l k o (by simpa using h) j hj
theorem cellsO5 : Try.prog.cellsOf 35 = 8 := by kernel_rfl
theorem i64_in {x : Int} (h : (Lit.int .i64 x).wf = true) : Nums.In64 x := by
  have := h
  simp [Lit.wf, IntKind.min, IntKind.max, IntKind.signed, IntKind.bits] at this
  unfold Nums.In64
  omega
theorem u8_in {x : Int} (h : (Lit.int .u8 x).wf = true) : 0 ≤ x ∧ x ≤ 255 := by
  have := h
  simp [Lit.wf, IntKind.min, IntKind.max, IntKind.signed, IntKind.bits] at this
  omega
section
variable {H : Type} {enc : TypeId × Value → H} {w : World} {base : Nat} {spare : Nat → Bool} {held : Bool}
theorem tuple_of {n : Nat} {c0 c1 c2 c3 c4 c5 : Value} {y : DataW H × List MemPlace} (hf : DataW.trod enc Try.prog w base spare held n 33 [c0, c1, c2, c3, c4, c5] = some y) :
    ∃ (a b c : Nat) (p s : Int) (A : Option Addr) (m k : Nat) (x : List UInt8), c0 = .int .u64 a ∧ c1 = .int .u64 b ∧ c2 = .int .u64 c ∧ c3 = .int .i64 p ∧ c4 = .int .i64 s ∧ c5 = .slice A m k ∧ x.length = m ∧ Sl w w.heap.size 1 A m k (u8s x) ∧ a < 18446744073709551616 ∧ b < 18446744073709551616 ∧ c < 18446744073709551616 := by
  obtain ⟨xs, n, _, _, hl, hlen, hfs⟩ := DataW.trod_struct Try.underlying33 hf
  match xs, hlen with
  | [y0, y1, y2, y3, y4], _ =>
    have h0 := hfs 0 _ rfl
    have h1 := hfs 1 _ rfl
    have h2 := hfs 2 _ rfl
    have h3 := hfs 3 _ rfl
    have h4 := hfs 4 _ rfl
    have e0 : Try.prog.cellsOf 28 = 1 := by kernel_rfl
    have e1 : Try.prog.cellsOf 30 = 2 := by kernel_rfl
    have e2 : Try.prog.cellsOf 31 = 1 := by kernel_rfl
    simp [e0, e1, e2, Value.cells] at h0 h1 h2 h3 h4
    obtain ⟨a, ha, -, wa⟩ := DataW.trod_int Try.underlying28 h0
    obtain ⟨b, hb, -, wb⟩ := DataW.trod_int Try.underlying28 h1
    obtain ⟨c, hc, -, wc⟩ := DataW.trod_int Try.underlying28 h2
    obtain ⟨p, s, hp, hs⟩ := tid_of h3
    obtain ⟨A, m, k, x, hx, hxl, hxs⟩ := bytes_of h4
    simp only [List.cons.injEq, and_true] at ha hb hc hx
    obtain ⟨a, rfl, la⟩ := u64_nat wa
    obtain ⟨b, rfl, lb⟩ := u64_nat wb
    obtain ⟨c, rfl, lc⟩ := u64_nat wc
    exact ⟨a, b, c, p, s, A, m, k, x, ha, hb, hc, hp, hs, hx, hxl, hxs, la, lb, lc⟩
theorem op5_of {n : Nat} {cs : List Value} {y : DataW H × List MemPlace} (h : DataW.trod enc Try.prog w base spare held n 35 cs = some y) : ∃ o : Op5, cs = o.cells ∧ o.ok w := by
  obtain ⟨y0, y1, y2, m, hx, hl, h0, h1, h2⟩ := trod_struct3 Try.underlying35 h
  rw [cellsO5] at hl
  match cs, hl with
  | [c0, c1, c2, c3, c4, c5, c6, c7], _ =>
    have e0 : Try.prog.cellsOf 3 = 1 := by kernel_rfl
    have e1 : Try.prog.cellsOf 5 = 1 := by kernel_rfl
    have e2 : Try.prog.cellsOf 33 = 6 := by kernel_rfl
    simp only [e0, e1, e2, List.drop, List.take] at h0 h1 h2
    obtain ⟨a, ha, -, wa⟩ := DataW.trod_int Try.underlying5 h0
    obtain ⟨b, hb, -, wb⟩ := DataW.trod_int Try.underlying3 h1
    simp only [List.cons.injEq, and_true] at ha hb
    obtain ⟨r, q, t, p, s, A, mm, k, x, k1, k2, k3, k4, k5, k6, hxl, hxs, la, lb, lc⟩ := tuple_of h2
    subst ha hb k1 k2 k3 k4 k5 k6
    exact ⟨⟨a, b, r, q, t, p, s, A, mm, k, x⟩, rfl, u8_in wa, i64_in wb, la, lb, lc, hxl, hxs⟩
theorem open_op5 {r : Reach} {b0 : Nat} {v : Value} {d : DataW H} {p : List MemPlace} (hval : Value.okWide Try.prog w r b0 35 v) (h : DataW.Trod enc Try.prog w base spare held 35 v d p) : ∃ o : Op5, v = .agg o.cells.toArray ∧ o.ok w := by
  obtain ⟨cs, rfl, hsz⟩ := okWide_struct Try.underlying35 hval
  obtain ⟨fuel, hf⟩ := h
  obtain ⟨o, ho, hok⟩ := op5_of hf
  have : cs.toList = o.cells := by simpa [Value.cells] using ho
  exact ⟨o, by rw [← this], hok⟩
theorem open_ops5 {r : Reach} {b0 : Nat} {v : Value} {d : DataW H} {p : List MemPlace} (hval : Value.okWide Try.prog w r b0 22 v) (h : DataW.Trod enc Try.prog w base spare held 22 v d p) :
    ∃ A n c l, v = .slice A n c ∧ l.length = n ∧ Sl w w.heap.size 8 A n c (ops5 l) ∧ ∀ o ∈ l, o.ok w := by
  obtain ⟨a0, n0, c0, rfl⟩ := okWide_slice Try.underlying22 hval
  obtain ⟨fuel, hf⟩ := h
  rcases open_slice Try.underlying22 hf with ⟨hcs, _⟩ | ⟨a, len, cap, m, n, D, Pl, hcs, hb, hl, hm, hmm, hx, hi⟩
  · have : (Value.slice a0 n0 c0) = .slice none 0 0 := by simpa [Value.cells] using hcs
    rw [this]
    exact ⟨none, 0, 0, [], rfl, rfl, ⟨rfl, Nat.le_refl _, by unfold maxLen; omega, fun _ => rfl, fun h => absurd h (by omega)⟩, fun o ho => by cases ho⟩
  · have e : (Value.slice a0 n0 c0) = .slice (some a) len cap := by simpa [Value.cells] using hcs
    rw [e]
    have hlm : len ≤ m := by rw [hmm]; split <;> omega
    obtain ⟨l, hll, hlp⟩ := list_of (fun i (u : Op5) => (∀ j c, (Op5.cells u)[j]? = some c → w.cell? (a.add (i * 8 + j)) = some c) ∧ u.ok w) len (fun i hi' => by
      obtain ⟨cs', hc, ht⟩ := hi i (by omega)
      obtain ⟨u, rfl, hok⟩ := op5_of ht
      rw [cellsO5] at hc
      obtain ⟨_, hcl, hat⟩ := World.cells?_some hc
      refine ⟨u, fun j c hj => ?_, hok⟩
      have hj3 : j < 8 := by rw [← hcl]; exact (List.getElem?_eq_some_iff.1 hj).1
      rw [← add_two, hat j hj3, hj])
    refine ⟨some a, len, cap, l, rfl, hll, ⟨by rw [ops5_len, hll], hl, hm, (fun e => by cases e), fun hn => ⟨a, rfl, ?_⟩⟩, fun u hu => ?_⟩
    · have hall : ∀ j u, (ops5 l)[j]? = some u → w.cell? (a.add j) = some u := by
        intro j u hu
        have hj : j < l.length * 8 := by rw [← ops5_len]; exact (List.getElem?_eq_some_iff.1 hu).1
        have hq : l[j / 8]? = some (l[j / 8]'(by omega)) := List.getElem?_eq_getElem _
        have hr := ops5_at l (j / 8) _ hq (j % 8) (by omega)
        have hjj : j / 8 * 8 + j % 8 = j := by omega
        rw [hjj] at hr
        rw [hr] at hu
        have := (hlp _ _ hq).1 _ _ hu
        rw [hjj] at this
        exact this
      refine ⟨?_, hall⟩
      have hq : l[0]? = some (l[0]'(by omega)) := List.getElem?_eq_getElem _
      have := World.block_lt_of_cell? w _ ((hlp 0 _ hq).1 0 _ rfl)
      rw [add_block] at this
      exact this
    · obtain ⟨i, hi', e⟩ := List.mem_iff_getElem.1 hu
      exact (hlp i u (by rw [← e]; exact List.getElem?_eq_getElem _)).2
end
/-- an operation's eight cells -/
theorem op5_cells {w w' : World} {A : Option Addr} {n c : Nat} {l : List Op5} (h : Sl w w.heap.size 8 A n c (ops5 l)) (hb : Below w.heap.size w w') {k : Nat} {o : Op5} (ho : l[k]? = some o) (hn : l.length = n) : ∃ ad, A = some ad ∧
    w'.cell? (ad.add (k * 8)) = some (.int .u8 o.z) ∧ w'.cell? ⟨(ad.add (k * 8)).block, (ad.add (k * 8)).off + 1, none⟩ = some (.int .i64 o.i) ∧ w'.cell? ⟨(ad.add (k * 8)).block, (ad.add (k * 8)).off + 2, none⟩ = some (.int .u64 o.r) ∧ w'.cell? ⟨(ad.add (k * 8)).block, (ad.add (k * 8)).off + 3, none⟩ = some (.int .u64 o.a) ∧ w'.cell? ⟨(ad.add (k * 8)).block, (ad.add (k * 8)).off + 4, none⟩ = some (.int .u64 o.b) ∧ w'.cell? ⟨(ad.add (k * 8)).block, (ad.add (k * 8)).off + 5, none⟩ = some (.int .i64 o.p) ∧ w'.cell? ⟨(ad.add (k * 8)).block, (ad.add (k * 8)).off + 6, none⟩ = some (.int .i64 o.s) ∧ w'.cell? ⟨(ad.add (k * 8)).block, (ad.add (k * 8)).off + 7, none⟩ = some (.slice o.A o.n o.c) := by
  have hk := (List.getElem?_eq_some_iff.1 ho).1
  obtain ⟨ad, hA, hat⟩ := h.at_ (by omega)
  have key : ∀ j y, o.cells[j]? = some y → j < 8 → w'.cell? (ad.add (k * 8 + j)) = some y := fun j y hy hj => (hat.below hb).2 (k * 8 + j) y (by rw [ops5_at l k o ho j hj]; exact hy)
  have e : ∀ j y, o.cells[j + 1]? = some y → j + 1 < 8 → w'.cell? ⟨(ad.add (k * 8)).block, (ad.add (k * 8)).off + (j + 1), none⟩ = some y := fun j y hy hj => by
    rw [← add_succ, add_two]
    exact key _ _ hy hj
  exact ⟨ad, hA, key 0 _ rfl (by omega), e 0 _ rfl (by omega), e 1 _ rfl (by omega), e 2 _ rfl (by omega), e 3 _ rfl (by omega), e 4 _ rfl (by omega), e 5 _ rfl (by omega), e 6 _ rfl (by omega)⟩
end Go.Proofs.Ythghnhcopmmmpaa.Mem
/- lapidarylaw05.build. -/
namespace Go.Proofs.Ythghnhcopmmmpaa.Mem
open Go.RowKit Go.Proofs.Ythghnhcopmmmpaa.Nums
set_option linter.unusedVariables false
set_option linter.unusedSimpArgs false
set_option maxRecDepth 100000
set_option maxHeartbeats 2000000
theorem do_any {w wr : World} {P R st : Nat} {L : SL} (h : Duo w wr P R L st) (o : Op5) (hok : o.ok wr) (h7 : ¬ o.z % 8 = 7) :
    Calls Try.prog 17 #[.pointer (some ⟨P, 0, none⟩), .pointer (some ⟨R, 0, none⟩), .agg #[.int .u8 o.z, .int .i64 o.i, .int .u64 o.r, .int .u64 o.a, .int .u64 o.b, .int .i64 o.p, .int .i64 o.s, .slice o.A o.n o.c]] wr fun e w' => e = .returned (.tuple #[.pointer (some ⟨P, 0, none⟩), .bool true]) ∧ ∃ L' st', Duo w w' P R L' st' := by
  have e : Int.tmod o.z 8 = o.z % 8 := Int.tmod_eq_emod_of_nonneg hok.z.1
  by_cases h4 : o.z % 8 = 4
  · exact do_stamp h o.z o.i o.r o.a o.b o.p o.s o.x hok.len hok.sl hok.r hok.a hok.b hok.z (by rw [e]; exact h4)
  · by_cases h5 : o.z % 8 = 5
    · exact do_free5 h o.z o.i o.r o.a o.b o.p o.s o.x hok.len hok.sl hok.r hok.a hok.b hok.z (by rw [e]; exact h5)
    · by_cases h6 : o.z % 8 = 6
      · exact do_free6 h o.z o.i o.r o.a o.b o.p o.s o.x hok.len hok.sl hok.r hok.a hok.b hok.z (by rw [e]; exact h6)
      · exact do_ins h o.z o.i o.r o.a o.b o.p o.s o.x hok.len hok.sl hok.r hok.a hok.b hok.z h4 h5 h6 h7
theorem Op5.ok.below {o : Op5} {w w' : World} (h : o.ok w) (hb : Below w.heap.size w w') : o.ok w' := ⟨h.z, h.i, h.r, h.a, h.b, h.len, h.sl.on hb⟩
theorem duo_new (w wr : World) (hb0 : Below w.heap.size w wr) :
    ∀ w1 w2, Hp w1 wr.heap.size [] 512 → Below wr.heap.size wr w1 → RfA w2 (fun g => g = w1.heap.size) w1.heap.size [] 512 none 0 → Below w1.heap.size w1 w2 → Duo w w2 wr.heap.size w1.heap.size [] 512 := fun w1 w2 hp hb1 hr hb2 =>
  ⟨hp.below hb2 hp.lt, ⟨_, [], none, 0, rfl, hr, (fun e => by have := hp.lt; omega), fun g hg => by subst hg; exact Nat.le_trans hb0.size hb1.size⟩, hb0.size, (hb0.trans (hb1.mono hb0.size)).trans (hb2.mono (Nat.le_trans hb0.size hb1.size))⟩
theorem build_any (w : World) (l : List Op5) (A : Option Addr) (n c : Nat) (hl : l.length = n) (hs : Sl w w.heap.size 8 A n c (ops5 l)) (hok : ∀ o ∈ l, o.ok w) (most : Int) (hm : 0 ≤ most ∧ most ≤ 1000) :
    Calls Try.prog 36 #[.slice A n c, .int .i64 most] w fun e w' => ∃ P R L st, e = .returned (.pointer (some ⟨P, 0, none⟩)) ∧ Duo w w' P R L st := by
  have hcap := hs.cap
  have hle := hs.le
  unfold maxLen at hcap
  have HS := Lib.hid hs
  have HL := Lib.hid hl
  have HOK := Lib.hid hok
  clear hs hl hok
  go_enter Try.func36, Try.ntmps36
  go_wp2_with fail
  refine (new_has w).mono ?_
  rintro e w1 ⟨rfl, hp1, hb1⟩
  go_wp2_with fail
  refine (rnew_any w1).mono ?_
  rintro e w2 ⟨rfl, hr2, hb2⟩
  have HD := Lib.hid (duo_new w w (Below.refl _ _) w1 w2 hp1 hb1 hr2 hb2)
  obtain ⟨P, hP⟩ : ∃ P, w.heap.size = P := ⟨_, rfl⟩
  obtain ⟨R, hR⟩ : ∃ R, w1.heap.size = R := ⟨_, rfl⟩
  rw [hP, hR] at HD
  rw [hP, hR]
  clear hp1 hb1 hr2 hb2 hP hR
  go_wp2_with fail
  go_loopw [5, 13] (fun pv i wl => ∃ (k : Nat) (L : SL) (st : Nat), k ≤ n ∧ pv = .pointer (some ⟨P, 0, none⟩) ∧ i = .int .i64 k ∧ Duo w wl P R L st) (fun _ i _ => n - (intOf i).toNat)
  case atStart => exact ⟨0, [], 512, by omega, rfl, rfl, HD.out⟩
  case round =>
    obtain ⟨k, L, st, hk, rfl, rfl, hd⟩ := hrel
    have HK := Lib.hid hd
    clear hd HD
    by_cases hlt : k < n
    · have hlt' : (k : Int) < n := by omega
      obtain ⟨o, ho⟩ : ∃ o, l[k]? = some o := ⟨_, List.getElem?_eq_getElem (by rw [HL.out]; exact hlt)⟩
      have hokw := (HOK.out o (List.mem_of_getElem? ho)).below HK.out.2.2.2
      have HOW := Lib.hid hokw
      obtain ⟨ad, rfl, y0, y1, y2, y3, y4, y5, y6, y7⟩ := op5_cells HS.out HK.out.2.2.2 ho HL.out
      obtain ⟨W, hW⟩ : ∃ W, wr.alloc (.cells #[.int .u8 o.z, .int .i64 o.i, .int .u64 o.r, .int .u64 o.a, .int .u64 o.b, .int .i64 o.p, .int .i64 o.s, .slice o.A o.n o.c] 35) = W := ⟨_, rfl⟩
      have HB := Lib.hid (bel_alloc wr (.cells #[.int .u8 o.z, .int .i64 o.i, .int .u64 o.r, .int .u64 o.a, .int .u64 o.b, .int .i64 o.p, .int .i64 o.s, .slice o.A o.n o.c] 35))
      rw [hW] at HB
      have HW := Lib.hid hW
      have hz := hokw.z
      have e : Int.tmod o.z 8 = o.z % 8 := Int.tmod_eq_emod_of_nonneg hz.1
      clear hW ho hokw
      by_cases hmk : (k : Int) < most
      · by_cases h7 : o.z % 8 = 7
        · have e7 : (o.z % 8 == 7) = true := by rw [beq_iff_eq]; exact h7
          go_wp2_with fail
          go_roundw
          case rel => exact ⟨k + 1, L, st, by omega, rfl, by go_num, by first | exact HK.out.below (bel_alloc _ _) | (rw [HW.out]; exact HK.out.below HB.out)⟩
          case measure => simp [intOf]; omega
        · have e7 : (o.z % 8 == 7) = false := beq_eq_false_iff_ne.2 h7
          go_wp2_with fail
          rw [HW.out]
          refine (do_any (HK.out.below HB.out) o (HOW.out.below HB.out) h7).mono ?_
          rintro e w5 ⟨rfl, L', st', hd5⟩
          have HD5 := Lib.hid hd5
          clear hd5
          go_wp2_with fail
          go_roundw
          case rel => exact ⟨k + 1, L', st', by omega, rfl, by go_num, HD5.out⟩
          case measure => simp [intOf]; omega
      · go_wp2_with fail
        go_roundw
        case rel => exact ⟨k + 1, L, st, by omega, rfl, by go_num, by first | exact HK.out.below (bel_alloc _ _) | (rw [HW.out]; exact HK.out.below HB.out)⟩
        case measure => simp [intOf]; omega
    · obtain rfl : k = n := by omega
      go_wp2_with fail
      go_ret
      exact ⟨P, R, L, st, rfl, HK.out⟩
end Go.Proofs.Ythghnhcopmmmpaa.Mem
/- Pages all of whose versions are one and the same: filled, with a hole, filled again. -/
namespace Go.Proofs.Ythghnhcopmmmpaa.Mem
open Go.RowKit Go.Proofs.Ythghnhcopmmmpaa.Nums
set_option linter.unusedVariables false
set_option linter.unusedSimpArgs false
set_option maxRecDepth 100000
/-- n slots, each with this version -/
structure Row (v : Ver) (n : Nat) (L : SL) : Prop where
  len : L.length = n
  all : ∀ j, j < n → ∃ f, L[j]? = some (some (v, f))
/-- .. but slot j is free -/
structure Hole (v : Ver) (n j : Nat) (L : SL) : Prop where
  lt : j < n
  next : nextL L = j
  len : max L.length (j + 1) = n
  tot : tot L + v.sz = n * v.sz
  all : ∀ i, i < n → i ≠ j → ∃ f, L[i]? = some (some (v, f))
section
variable {v : Ver} {n j : Nat} {L : SL}
theorem tot_same {z : Nat} : ∀ {L : SL}, (∀ o ∈ L, osz o = z) → tot L = L.length * z
  | [], _ => by simp [Mem.tot]
  | o :: l, h => by
    have := tot_same (L := l) (z := z) fun x hx => h x (List.mem_cons_of_mem _ hx)
    have h0 := h o (List.mem_cons_self ..)
    simp [Mem.tot] at this ⊢
    rw [this, h0, Nat.add_mul]
    omega
theorem Row.next (h : Row v n L) : nextL L = n :=
  nextL_eq (fun j hj => by obtain ⟨f, hf⟩ := h.all j hj; exact ⟨_, hf⟩) (by rw [h.len]; exact Nat.le_refl _) (fun hn => by rw [h.len] at hn; omega)
theorem Row.tot (h : Row v n L) : Mem.tot L = n * v.sz := by
  rw [tot_same (z := v.sz), h.len]
  intro o ho
  obtain ⟨i, hi, rfl⟩ := List.getElem_of_mem ho
  obtain ⟨f, hf⟩ := h.all i (by rw [← h.len]; exact hi)
  rw [List.getElem?_eq_getElem hi] at hf
  injection hf with hf
  rw [hf]
  rfl
theorem Row.room (h : Row v n L) : roomL L = max (478 - 4 * ((n + 1 : Nat) : Int) - (n * v.sz : Nat)) (-1) := by
  unfold roomL
  rw [h.next, h.len, h.tot, Nat.max_eq_right (by omega)]
theorem Row.nil : Row v 0 [] := ⟨rfl, fun j hj => absurd hj (by omega)⟩
theorem insS_len (L : SL) (st : Nat) (v : Ver) : (insS L st v).1.length = max L.length (nextL L + 1) := by
  unfold insS
  split
  · show (putL _ _ _).length = _
    rw [putL_len (by rw [packL_len]; exact nextL_le L), packL_len]
  · show (putL _ _ _).length = _
    rw [putL_len (nextL_le L)]
theorem insS_new (L : SL) (st : Nat) (v : Ver) : ∃ f, (insS L st v).1[nextL L]? = some (some (v, f)) := by
  unfold insS
  split
  · exact ⟨_, by show (putL _ _ _)[_]? = _; rw [putL_get (by rw [packL_len]; exact nextL_le L), if_pos rfl]⟩
  · exact ⟨_, by show (putL _ _ _)[_]? = _; rw [putL_get (nextL_le L), if_pos rfl]⟩
theorem insS_old {L : SL} (st : Nat) (v : Ver) {i : Nat} (hi : i ≠ nextL L) {u : Ver} {f : Nat} (h : L[i]? = some (some (u, f))) : ∃ f, (insS L st v).1[i]? = some (some (u, f)) := by
  unfold insS
  split
  · exact ⟨_, by show (putL _ _ _)[_]? = _; rw [putL_get (by rw [packL_len]; exact nextL_le L), if_neg hi, packL_some h]⟩
  · exact ⟨_, by show (putL _ _ _)[_]? = _; rw [putL_get (nextL_le L), if_neg hi, h]⟩
theorem Row.ins (h : Row v n L) (st : Nat) : Row v (n + 1) (insS L st v).1 := by
  have hx := h.next
  refine ⟨by rw [insS_len, hx, h.len]; omega, fun j hj => ?_⟩
  by_cases he : j = n
  · subst he
    have := insS_new L st v
    rwa [hx] at this
  · obtain ⟨f, hf⟩ := h.all j (by omega)
    exact insS_old st v (by rw [hx]; exact he) hf
theorem Hole.ins (h : Hole v n j L) (st : Nat) : Row v n (insS L st v).1 := by
  have hx := h.next
  refine ⟨by rw [insS_len, hx, h.len], fun i hi => ?_⟩
  by_cases he : i = j
  · subst he
    have := insS_new L st v
    rwa [hx] at this
  · obtain ⟨f, hf⟩ := h.all i hi he
    exact insS_old st v (by rw [hx]; exact he) hf
theorem Hole.room (h : Hole v n j L) : roomL L = max (478 - 4 * (n : Int) - (n * v.sz - v.sz : Nat)) (-1) := by
  unfold roomL
  have := h.tot
  rw [h.next, h.len, show Mem.tot L = n * v.sz - v.sz by omega]
theorem IsTrim.tot {M : SL} {k : Nat} (h : IsTrim M k) : Mem.tot (M.take k) = Mem.tot M := by
  have e : Mem.tot (M.take k) + Mem.tot (M.drop k) = Mem.tot M := by
    unfold Mem.tot
    rw [← List.sum_append, ← List.map_append, List.take_append_drop]
  have e2 : Mem.tot (M.drop k) = (M.drop k).length * 0 := tot_same fun o ho => by
    obtain ⟨i, hi, rfl⟩ := List.getElem_of_mem ho
    rw [List.length_drop] at hi
    have := h.free (k + i) (by omega) (by omega)
    rw [List.getElem?_eq_getElem (by omega)] at this
    injection this with this
    rw [List.getElem_drop, this]
    rfl
  omega
theorem Row.hole (h : Row v n L) (hj : j < n) {k : Nat} (hk : IsTrim (L.set j none) k) : Hole v n j ((L.set j none).take k) := by
  have hl : j < L.length := by rw [h.len]; exact hj
  have hkl := hk.le
  rw [List.length_set, h.len] at hkl
  have hget := set_get hl none
  have hsome : ∀ i, i < n → i ≠ j → ∃ f, (L.set j none)[i]? = some (some (v, f)) := fun i hi hne => by
    obtain ⟨f, hf⟩ := h.all i hi
    exact ⟨f, by rw [hget, if_neg hne]; exact hf⟩
  have hlow : ∀ i, i < n → i ≠ j → i < k := fun i hi hne => by
    apply Classical.byContradiction
    intro hc
    obtain ⟨f, hf⟩ := hsome i hi hne
    rw [hk.free i (by omega) (by rw [List.length_set, h.len]; exact hi)] at hf
    cases hf
  have htk : ∀ i, i < k → ((L.set j none).take k)[i]? = (L.set j none)[i]? := fun i hi => by rw [List.getElem?_take, if_pos hi]
  have hlen : ((L.set j none).take k).length = k := by rw [List.length_take, List.length_set, h.len]; omega
  have hjk : j ≤ k := by
    rcases Nat.eq_zero_or_pos j with h0 | h0
    · omega
    · have := hlow (j - 1) (by omega) (by omega); omega
  refine ⟨hj, ?_, ?_, ?_, ?_⟩
  · refine nextL_eq (fun i hi => ?_) (by rw [hlen]; exact hjk) (fun hlt => ?_)
    · obtain ⟨f, hf⟩ := hsome i (by omega) (by omega)
      exact ⟨_, by rw [htk i (by omega)]; exact hf⟩
    · rw [hlen] at hlt
      rw [htk j hlt, hget, if_pos rfl]
  · rw [hlen]
    by_cases he : j + 1 = n
    · omega
    · have := hlow (n - 1) (by omega) (by omega)
      omega
  · rw [hk.tot]
    obtain ⟨f, hf⟩ := h.all j hj
    have := tot_set L j none _ hf
    have e := h.tot
    simp only [osz] at this
    omega
  · intro i hi hne
    obtain ⟨f, hf⟩ := hsome i hi hne
    exact ⟨f, by rw [htk i (hlow i hi hne)]; exact hf⟩
theorem Row.used (h : Row v n L) : usedL L = n := by
  unfold usedL
  rw [List.filter_eq_self.2, h.len]
  intro o ho
  obtain ⟨i, hi, rfl⟩ := List.getElem_of_mem ho
  obtain ⟨f, hf⟩ := h.all i (by rw [← h.len]; exact hi)
  rw [List.getElem?_eq_getElem hi] at hf
  injection hf with hf
  rw [hf]
  rfl
theorem Row.at_ (h : Row v n L) {j : Nat} (hj : j < n) : ∃ f, atL L (j : Int) = some (v, f) := by
  obtain ⟨f, hf⟩ := h.all j hj
  refine ⟨f, ?_⟩
  unfold atL
  rw [if_neg (by omega), show ((j : Nat) : Int).toNat = j by omega, hf]
  rfl
end
/-- the page of n such versions -/
def Rp (w : World) (P : Nat) (v : Ver) (n : Nat) : Prop := ∃ L st, Hp w P L st ∧ Row v n L
def Ho (w : World) (P : Nat) (v : Ver) (n j : Nat) : Prop := ∃ L st, Hp w P L st ∧ Hole v n j L
section
variable {w w' : World} {P n j c : Nat} {v : Ver} {A : Option Addr}
theorem Rp.lt (h : Rp w P v n) : P < w.heap.size := by obtain ⟨L, st, h, _⟩ := h; exact h.lt
theorem Ho.lt (h : Ho w P v n j) : P < w.heap.size := by obtain ⟨L, st, h, _⟩ := h; exact h.lt
theorem Rp.keep (h : Rp w P v n) (hk : w'.heap[P]? = w.heap[P]?) : Rp w' P v n := by obtain ⟨L, st, h, r⟩ := h; exact ⟨L, st, h.keep hk, r⟩
theorem Ho.keep (h : Ho w P v n j) (hk : w'.heap[P]? = w.heap[P]?) : Ho w' P v n j := by obtain ⟨L, st, h, r⟩ := h; exact ⟨L, st, h.keep hk, r⟩
theorem rp_new (v : Ver) (w : World) : Calls Try.prog 15 #[] w fun e w' => e = .returned (.pointer (some ⟨w.heap.size, 0, none⟩)) ∧ Rp w' w.heap.size v 0 ∧ Below w.heap.size w w' :=
  (new_has w).mono fun e w' ⟨h1, h2, h3⟩ => ⟨h1, ⟨_, _, h2, Row.nil⟩, h3⟩
theorem rp_insert (h : Rp w P v n) (hv : v.ok) (hs : Sl w w.heap.size 1 A v.d.length c (u8s v.d)) (hfit : (n + 1) * (v.sz + 4) ≤ 508) :
    Calls Try.prog 34 #[.pointer (some ⟨P, 0, none⟩), tupV v (.slice A v.d.length c)] w fun e w' => e = .returned (.tuple #[.int .i64 n, .int .i64 0]) ∧ Rp w' P v (n + 1) ∧ Only P w w' := by
  obtain ⟨L, st, h, r⟩ := h
  have hz : v.sz = 30 + v.d.length := rfl
  have e : (n + 1) * (v.sz + 4) = n * v.sz + v.sz + 4 * n + 4 := by rw [Nat.add_mul, Nat.mul_add]; omega
  refine (insert_has P _ c A v L st w h hv rfl hs (by rw [r.room]; omega)).mono ?_
  rintro e w' ⟨rfl, h2, h3⟩
  rw [r.next]
  exact ⟨rfl, ⟨_, _, h2, r.ins st⟩, h3⟩
theorem rp_full (h : Rp w P v n) (hv : v.ok) (hs : Sl w w.heap.size 1 A v.d.length c (u8s v.d)) (hfit : 508 < (n + 1) * (v.sz + 4)) :
    Calls Try.prog 34 #[.pointer (some ⟨P, 0, none⟩), tupV v (.slice A v.d.length c)] w fun e w' => e = .returned (.tuple #[.int .i64 0, .int .i64 12]) ∧ Below w.heap.size w w' := by
  obtain ⟨L, st, h, r⟩ := h
  have hz : v.sz = 30 + v.d.length := rfl
  have e : (n + 1) * (v.sz + 4) = n * v.sz + v.sz + 4 * n + 4 := by rw [Nat.add_mul, Nat.mul_add]; omega
  exact insert_has_full P _ c A v L st w h hv rfl hs (by rw [r.room]; omega)
theorem rp_free (h : Rp w P v n) (hj : j < n) :
    Calls Try.prog 35 #[.pointer (some ⟨P, 0, none⟩), .int .i64 j] w fun e w' => e = .returned (.int .i64 0) ∧ Ho w' P v n j ∧ Only P w w' := by
  obtain ⟨L, st, h, r⟩ := h
  obtain ⟨f, hf⟩ := r.at_ hj
  refine (free_has P L st j v f w h hf).mono ?_
  rintro e w' ⟨rfl, k, hk, hp, ho⟩
  exact ⟨rfl, ⟨_, _, hp, r.hole hj hk⟩, ho⟩
theorem ho_insert (h : Ho w P v n j) (hv : v.ok) (hs : Sl w w.heap.size 1 A v.d.length c (u8s v.d)) (hfit : n * (v.sz + 4) ≤ 508) :
    Calls Try.prog 34 #[.pointer (some ⟨P, 0, none⟩), tupV v (.slice A v.d.length c)] w fun e w' => e = .returned (.tuple #[.int .i64 j, .int .i64 0]) ∧ Rp w' P v n ∧ Only P w w' := by
  obtain ⟨L, st, h, r⟩ := h
  have hz : v.sz = 30 + v.d.length := rfl
  have e : n * (v.sz + 4) = n * v.sz + 4 * n := by rw [Nat.mul_add]; omega
  have hlt := r.lt
  have ht := r.tot
  refine (insert_has P _ c A v L st w h hv rfl hs (by rw [r.room]; omega)).mono ?_
  rintro e w' ⟨rfl, h2, h3⟩
  rw [r.next]
  exact ⟨rfl, ⟨_, _, h2, r.ins st⟩, h3⟩
theorem rp_used (h : Rp w P v n) : Calls Try.prog 23 #[.pointer (some ⟨P, 0, none⟩)] w fun e w' => e = .returned (.int .i64 n) ∧ ∃ m, w' = w.drewN m := by
  obtain ⟨L, st, h, r⟩ := h
  have := used_has P L st w h
  rwa [r.used] at this
end
end Go.Proofs.Ythghnhcopmmmpaa.Mem
