/- Texts RfF to LoadB, one behind the other. -/
import Derived.Test.YtbkdbnkakjogjaaMPLO2
import Derived.Deep.RegionHeld3
import Derived.Deep.CutRange
import Derived.ProofKit
import Derived.OpenShut
import Derived.Carry
import Derived.ChangeSlices
import Derived.Lib.SmallJoins
import Derived.Deep.Strs
/- lapidaryref05.Insert. -/
namespace Go.Proofs.Ytbkdbnkakjogjaa.Mem
open Go.RowKit Go.Proofs.Ytbkdbnkakjogjaa.Nums
set_option linter.unusedVariables false
set_option linter.unusedSimpArgs false
set_option maxRecDepth 100000
set_option maxHeartbeats 4000000
section
variable {w : World} {F : Nat → Prop} {R st c : Nat} {E : List Ent} {A : Option Addr}
theorem rins_full (h : RfA w F R E st A c) (hl : E.length ≤ 127) (hvs : ∀ (i : Nat) (v : Ver) (f : Nat), (E.map Prod.fst)[i]? = some (some (v, f)) → v.d.length ≤ 200) (v : Ver) (A0 : Option Addr) (c0 : Nat) (hv : v.ok) (hs : Sl w w.heap.size 1 A0 v.d.length c0 (u8s v.d)) (hroom : roomL (E.map Prod.fst) < (v.d.length : Int)) :
    Calls Try.prog 64 #[.pointer (some ⟨R, 0, none⟩), tupV v (.slice A0 v.d.length c0)] w fun e w' => e = .returned (.tuple #[.int .i64 0, .int .i64 12]) ∧ Below w.heap.size w w' := by
  have hle := h.le
  unfold maxLen at hle
  have H := Lib.hid h
  have HV := Lib.hid hvs
  have hok := hv.tuOk
  have hd200 := hv.d
  obtain ⟨n, hn⟩ : ∃ n, v.d.length = n := ⟨_, rfl⟩
  rw [hn] at hok hs hroom hd200 ⊢
  have HN := Lib.hid hn
  have HS := Lib.hid hs
  unfold tupV
  obtain ⟨p, hp⟩ : ∃ p : Int, (v.p : Int) - 1 = p := ⟨_, rfl⟩
  obtain ⟨s, hs1⟩ : ∃ s : Int, (v.s : Int) - 1 = s := ⟨_, rfl⟩
  rw [hp, hs1] at hok ⊢
  have HPS := Lib.hid (And.intro hp hs1)
  obtain ⟨b0, hb0⟩ : ∃ b0, w.heap.size = b0 := ⟨_, rfl⟩
  obtain ⟨W1, hW1⟩ : ∃ W1, w.alloc (.cells #[.int .u64 v.r, .int .u64 v.a, .int .u64 v.b, .int .i64 p, .int .i64 s, .slice A0 n c0] 33) = W1 := ⟨_, rfl⟩
  have HT1 : Hid (Blk W1 b0 33 #[.int .u64 v.r, .int .u64 v.a, .int .u64 v.b, .int .i64 p, .int .i64 s, .slice A0 n c0]) := Lib.hid (by rw [← hW1, ← hb0]; exact Blk.new w _ _)
  have HB1 : Hid (Below b0 w W1) := Lib.hid (by rw [← hW1, ← hb0]; exact bel_alloc _ _)
  have HW1 := Lib.hid hW1
  have CR := Lib.hid (rright_any v.r v.a v.b p s A0 n c0 W1)
  rw [hok] at CR
  have HBZ := Lib.hid hb0
  have x0 := HT1.out.cell 0
  have x1 := HT1.out.cell 1
  have x2 := HT1.out.cell 2
  have x3 := HT1.out.cell 3
  have x4 := HT1.out.cell 4
  have x5 := HT1.out.cell 5
  rw [← hW1] at x0 x1 x2 x3 x4 x5
  clear h hvs hs hok hp hs1 hn hW1
  go_enter Try.func64, Try.ntmps64
  rw [hb0]
  go_wp2_with fail
  clear x0 x1 x2 x3 x4 x5
  rw [HW1.out]
  refine CR.out.mono ?_
  rintro e w2 ⟨rfl, hb2⟩
  have HT2 := Lib.hid (Blk.below HT1.out hb2 (Blk.lt HT1.out))
  have HB2 : Hid (Below b0 w w2) := Lib.hid (HB1.out.trans (hb2.mono (Nat.le_of_lt (Blk.lt HT1.out))))
  clear hb2 CR
  go_wp2_with fail
  have H2 := Lib.hid (H.out.below (by rw [HBZ.out]; exact HB2.out))
  obtain ⟨rm, hrm⟩ : ∃ rm, roomL (E.map Prod.fst) = rm := ⟨_, rfl⟩
  have HRM := Lib.hid hrm
  have HRC : Hid (∀ w0, RfA w0 F R E st A c → Calls Try.prog 22 #[.pointer (some ⟨R, 0, none⟩)] w0 fun e w' => e = .returned (.int .i64 rm) ∧ Below w0.heap.size w0 w') := Lib.hid (fun w0 h0 => by have := rroom_any h0 (by omega) HV.out; rwa [HRM.out] at this)
  rw [hrm] at hroom
  have x5 := HT2.out.cell 5
  clear hrm
  go_region_held3 (fun w' => w'.cell? ⟨b0, 5, none⟩ = some (.slice A0 n c0)) (first | go_keep | exact (hb3.cell (p := ⟨b0, 5, none⟩) (Blk.lt HT2.out)).trans (HT2.out.cell 5)) (first | (go_at_call 22; refine (HRC.out _ (RfA.drew H2.out)).mono ?_; rintro e w3 ⟨rfl, hb3⟩))
  have HT3 := Lib.hid (Blk.below (Blk.drew HT2.out) hb3 (Blk.lt HT2.out))
  have HB3 : Hid (Below b0 w w3) := Lib.hid (HB2.out.drew.trans (hb3.mono (Nat.le_of_lt (Blk.lt HT2.out))))
  clear hb3 x5
  go_wp2_with fail
  go_ret2
  exact ⟨rfl, HB3.out⟩

theorem rins_ok (h : RfA w F R E st A c) (hl : E.length ≤ 127) (hst : st ≤ 512) (hvs : ∀ (i : Nat) (v : Ver) (f : Nat), (E.map Prod.fst)[i]? = some (some (v, f)) → v.d.length ≤ 200) (v : Ver) (A0 : Option Addr) (c0 : Nat) (hv : v.ok) (hs : Sl w w.heap.size 1 A0 v.d.length c0 (u8s v.d)) (hroom : ¬ roomL (E.map Prod.fst) < (v.d.length : Int)) :
    Calls Try.prog 64 #[.pointer (some ⟨R, 0, none⟩), tupV v (.slice A0 v.d.length c0)] w fun e w' => e = .returned (.tuple #[.int .i64 (nextL (E.map Prod.fst)), .int .i64 0]) ∧ (∃ E' A' c', E'.map Prod.fst = (insS (E.map Prod.fst) st v).1 ∧ RfA w' (fun g => F g ∨ (w.heap.size ≤ g ∧ g < w'.heap.size)) R E' (insS (E.map Prod.fst) st v).2 A' c') ∧ Turn F w w' := by
  have hle := h.le
  unfold maxLen at hle
  have H := Lib.hid h
  have HV := Lib.hid hvs
  have hok := hv.tuOk
  have hd200 := hv.d
  obtain ⟨n, hn⟩ : ∃ n, v.d.length = n := ⟨_, rfl⟩
  rw [hn] at hok hs hroom hd200 ⊢
  have HN := Lib.hid hn
  have HS := Lib.hid hs
  unfold tupV
  obtain ⟨p, hp⟩ : ∃ p : Int, (v.p : Int) - 1 = p := ⟨_, rfl⟩
  obtain ⟨s, hs1⟩ : ∃ s : Int, (v.s : Int) - 1 = s := ⟨_, rfl⟩
  rw [hp, hs1] at hok ⊢
  have HPS := Lib.hid (And.intro hp hs1)
  obtain ⟨b0, hb0⟩ : ∃ b0, w.heap.size = b0 := ⟨_, rfl⟩
  obtain ⟨W1, hW1⟩ : ∃ W1, w.alloc (.cells #[.int .u64 v.r, .int .u64 v.a, .int .u64 v.b, .int .i64 p, .int .i64 s, .slice A0 n c0] 33) = W1 := ⟨_, rfl⟩
  have HT1 : Hid (Blk W1 b0 33 #[.int .u64 v.r, .int .u64 v.a, .int .u64 v.b, .int .i64 p, .int .i64 s, .slice A0 n c0]) := Lib.hid (by rw [← hW1, ← hb0]; exact Blk.new w _ _)
  have HB1 : Hid (Below b0 w W1) := Lib.hid (by rw [← hW1, ← hb0]; exact bel_alloc _ _)
  have HW1 := Lib.hid hW1
  have CR := Lib.hid (rright_any v.r v.a v.b p s A0 n c0 W1)
  rw [hok] at CR
  have HBZ := Lib.hid hb0
  have x0 := HT1.out.cell 0
  have x1 := HT1.out.cell 1
  have x2 := HT1.out.cell 2
  have x3 := HT1.out.cell 3
  have x4 := HT1.out.cell 4
  have x5 := HT1.out.cell 5
  rw [← hW1] at x0 x1 x2 x3 x4 x5
  clear h hvs hs hok hp hs1 hn hW1
  go_enter Try.func64, Try.ntmps64
  rw [hb0]
  go_wp2_with fail
  clear x0 x1 x2 x3 x4 x5
  rw [HW1.out]
  refine CR.out.mono ?_
  rintro e w2 ⟨rfl, hb2⟩
  have HT2 := Lib.hid (Blk.below HT1.out hb2 (Blk.lt HT1.out))
  have HB2 : Hid (Below b0 w w2) := Lib.hid (HB1.out.trans (hb2.mono (Nat.le_of_lt (Blk.lt HT1.out))))
  clear hb2 CR
  go_wp2_with fail
  have H2 := Lib.hid (H.out.below (by rw [HBZ.out]; exact HB2.out))
  obtain ⟨rm, hrm⟩ : ∃ rm, roomL (E.map Prod.fst) = rm := ⟨_, rfl⟩
  have HRM := Lib.hid hrm
  have HRC : Hid (∀ w0, RfA w0 F R E st A c → Calls Try.prog 22 #[.pointer (some ⟨R, 0, none⟩)] w0 fun e w' => e = .returned (.int .i64 rm) ∧ Below w0.heap.size w0 w') := Lib.hid (fun w0 h0 => by have := rroom_any h0 (by omega) HV.out; rwa [HRM.out] at this)
  rw [hrm] at hroom
  have x5 := HT2.out.cell 5
  clear hrm
  go_region_held3 (fun w' => w'.cell? ⟨b0, 5, none⟩ = some (.slice A0 n c0)) (first | go_keep | exact (hb3.cell (p := ⟨b0, 5, none⟩) (Blk.lt HT2.out)).trans (HT2.out.cell 5)) (first | (go_at_call 22; refine (HRC.out _ (RfA.drew H2.out)).mono ?_; rintro e w3 ⟨rfl, hb3⟩))
  have HT3 := Lib.hid (Blk.below (Blk.drew HT2.out) hb3 (Blk.lt HT2.out))
  have HB3 : Hid (Below b0 w w3) := Lib.hid (HB2.out.drew.trans (hb3.mono (Nat.le_of_lt (Blk.lt HT2.out))))
  clear hb3 x5
  have CC := Lib.hid (copy_any v.d A0 n c0 w3 (HS.out.on (by rw [HBZ.out]; exact HB3.out)) (by omega))
  have x5 := HT3.out.cell 5
  go_wp2_with fail
  clear x5
  refine CC.out.mono ?_
  rintro e w4 ⟨u, rfl, hou, hb4⟩
  obtain ⟨Au, cu, rfl, hsu⟩ := Sl.of_own hou
  have HT4 := Lib.hid (Blk.below HT3.out hb4 (Blk.lt HT3.out))
  have hb04 : b0 ≤ w3.heap.size := Nat.le_of_lt (Blk.lt HT3.out)
  have HB4 : Hid (Below b0 w w4) := Lib.hid (HB3.out.trans (hb4.mono hb04))
  have x5 := HT4.out.cell 5
  have f5 := HT4.out.frozen 5
  obtain ⟨w5, hw5⟩ : ∃ w5, w4.setCell ⟨b0, 5, none⟩ (.slice Au n cu) = w5 := ⟨_, rfl⟩
  have HB5 : Hid (Below b0 w w5) := Lib.hid (by rw [← hw5]; exact HB4.out.setCell (p := ⟨b0, 5, none⟩) (Nat.le_refl _) _)
  have HT5 : Hid (Blk w5 b0 33 #[.int .u64 v.r, .int .u64 v.a, .int .u64 v.b, .int .i64 p, .int .i64 s, .slice Au n cu]) := Lib.hid (by rw [← hw5]; exact Blk.set_ HT4.out 5 _)
  have HU5 : Hid (OwnB w5 (b0 + 1) (.slice Au n cu) n (u8s v.d)) := Lib.hid (by
    have h1 := own_mono hou (show b0 + 1 ≤ w3.heap.size from Blk.lt HT3.out)
    exact own_keep h1 fun k hk => by rw [← hw5]; exact Below.heap_setCell _ _ _ _ (by have := (h1.lt k hk).1; show k ≠ b0; omega))
  have H5 := Lib.hid (H.out.below (by rw [HBZ.out]; exact HB5.out))
  have HW5 := Lib.hid hw5
  clear hou hsu hb4 hw5 CC hb04
  go_upto_region 8 with fail
  clear x5 f5
  rw [HW5.out]
  have x0 := H5.out.blk.cell 0
  have x1 := H5.out.blk.cell 1
  obtain ⟨L, hL⟩ : ∃ L, E.map Prod.fst = L := ⟨_, rfl⟩
  have hLl : L.length = E.length := by rw [← hL, List.length_map]
  have HLL := Lib.hid hL
  clear hL
  go_wp2_with fail
  go_loopw [6, 7] (fun sl i wr => ∃ k m : Nat, k ≤ E.length ∧ i = .int .i64 ((k : Int) - 1) ∧ sl = .int .i64 (slotFrom L k : Nat) ∧ wr = w5.drewN m) (fun _ i _ => (intOf i + 1).toNat)
  case atStart => exact ⟨E.length, 0, Nat.le_refl _, rfl, by rw [← hLl, slotFrom_end], rfl⟩
  case round =>
    obtain ⟨k, m, hk, rfl, rfl, rfl⟩ := hrel
    have H6 := Lib.hid (H5.out.drewN m)
    cases k with
    | succ k =>
      have hkE : k < E.length := by omega
      obtain ⟨⟨o, uu⟩, hek⟩ : ∃ e, E[k]? = some e := ⟨_, List.getElem?_eq_getElem hkE⟩
      obtain ⟨g, cur, rfl, _, _, _, _⟩ := H6.out.arr hkE
      have hLk : L[k]? = some o := by rw [← HLL.out]; exact map_at hek
      have k1 : ((k : Int) + 1 - 1) = k := by omega
      have k2 : (0 : Int) ≤ k := by omega
      have k3 : (k : Int) < E.length := by omega
      cases o with
      | none =>
        obtain ⟨y0, y1, y2, y3, y4, y5, y6, y7⟩ := H6.out.free8 hek rfl
        have HSF := Lib.hid (slotFrom_none hLk)
        clear y1 y2 y3 y4 y5 y6 y7 hek hLk
        go_wp2_with fail
        go_roundw
        case rel => exact ⟨k, m, by omega, by go_num <;> (congr 1; omega), by rw [HSF.out]; (congr 1 <;> omega), rfl⟩
        case measure => simp [intOf]
      | some x =>
        obtain ⟨xv, xf⟩ := x
        obtain ⟨y0, y1, y2, y3, y4, y5, y6, y7⟩ := H6.out.full8 hek rfl
        have HSF := Lib.hid (slotFrom_some hLk)
        clear y1 y2 y3 y4 y5 y6 y7 hek hLk
        go_wp2_with fail
        go_roundw
        case rel => exact ⟨k, m, by omega, by go_num <;> (congr 1; omega), by rw [HSF.out], rfl⟩
        case measure => simp [intOf]
    | zero =>
      rw [slotFrom_zero]
      obtain ⟨q, hq⟩ : ∃ q, nextL L = q := ⟨_, rfl⟩
      have HQ := Lib.hid hq
      have hqle := nextL_le L
      rw [hq] at hqle ⊢
      clear hq
      have hrl := roomL_le (L := L) (n := n) (by rw [← HLL.out, HRM.out]; omega)
      rw [HQ.out] at hrl
      have HU5' : OwnB w5 (b0 + 1) (.slice Au n cu) v.d.length (u8s v.d) := by rw [HN.out]; exact HU5.out
      have HI0 : Hid (RIn w w5 F b0 R E st A c #[.int .u64 v.r, .int .u64 v.a, .int .u64 v.b, .int .i64 p, .int .i64 s, .slice Au n cu] (.slice Au n cu) v.d) := Lib.hid ⟨H5.out.more (fun g hg => .inl hg) (fun g hg => hg.elim (H5.out.lt g) (fun k => k.2)), HT5.out, HU5', Turn.of_below (by rw [HBZ.out]; exact HB5.out), HBZ.out⟩
      clear HU5' x0 x1
      obtain ⟨M, hM⟩ : ∃ M, max L.length (q + 1) = M := ⟨_, rfl⟩
      rw [hM] at hrl
      rcases Nat.lt_or_ge q L.length with hqL | hqL
      · have hML : E.length = M := by omega
        have HE1 : Hid (E.map Prod.fst = L) := HLL
        obtain ⟨L1, hL1⟩ : ∃ L1, L = L1 := ⟨_, rfl⟩
        have HIN := Lib.hid (ins_eq (L := L) (L1 := L1) (st := st) (q := q) (M := M) (v := v) HQ.out hqle (.inl ⟨hqL, hL1.symm⟩) hM)
        rw [hL1] at HE1
        have hEq : ∃ uq, E[q]? = some (none, uq) := by
          have h1 : L[q]? = some none := by have h2 := nextL_free (L := L) (by rw [HQ.out]; exact hqL); rwa [HQ.out] at h2
          rw [← HLL.out, List.getElem?_map] at h1
          cases h3 : E[q]? with
          | none => rw [h3] at h1; cases h1
          | some e =>
            obtain ⟨o, uq⟩ := e
            rw [h3] at h1
            injection h1 with h1
            have h1' : o = none := h1
            subst h1'
            exact ⟨uq, rfl⟩
        obtain ⟨uq, hEq⟩ := hEq
        have HE1Q := Lib.hid hEq
        have hqne : ¬ (q : Int) = E.length := by omega
        have hqM : q < M := by omega
        have HI := Lib.hid (HI0.out.drewN m)
        clear hEq HI0 hL1
        obtain ⟨w9, hw9⟩ : ∃ w9, w5.drewN m = w9 := ⟨_, rfl⟩
        rw [hw9] at HI ⊢
        clear hw9 H5 H6 HT5 HU5 HB5
        have x0 := HI.out.rf.blk.cell 0
        have x1 := HI.out.rf.blk.cell 1
        have x5 := HI.out.box.cell 5
        have f1 := HI.out.rf.blk.frozen 1
        have hz : v.sz = 30 + n := by show 30 + v.d.length = _; rw [HN.out]
        have HENT : Hid (∀ a : Nat, entV (some (v, a), (.slice Au n cu)) = [.bool true, .int .u64 v.r, .int .u64 v.a, .int .u64 v.b, .int .i64 p, .int .i64 s, (.slice Au n cu), .int .i64 a]) := Lib.hid (fun a => by simp only [entV, HPS.out.1, HPS.out.2])
        by_cases hc : st < v.sz + (4 + 4 * M)
        · have HFI := Lib.hid (HIN.out.2.2.1 hc)
          have htl : tot L1 + n ≤ 478 := by rw [HIN.out.2.1]; omega
          have hk1 : (st : Int) - (30 + (n : Int)) < 4 + 4 * (M : Int) := by omega
          rw [hML] at x0
          go_wp2_with fail
          go_quiet (fail)
          clear x5
          go_upto_region 19 with fail
          obtain ⟨w10, hw10⟩ : ∃ w10, (w9.drewN nq).setCell ⟨R, 1, none⟩ (.int .i64 512) = w10 := ⟨_, rfl⟩
          have HJ : Hid (RIn w w10 F b0 R E 512 A c #[.int .u64 v.r, .int .u64 v.a, .int .u64 v.b, .int .i64 p, .int .i64 s, .slice Au n cu] (.slice Au n cu) v.d) := Lib.hid (by rw [← hw10]; exact (HI.out.drewN _).setSt 512)
          rw [hw10]
          clear hw10 x0 x1 f1
          have x0 := HJ.out.rf.blk.cell 0
          rw [hML] at x0
          go_wp2_with fail
          clear x0
          go_loopw [94] (fun i wr => ∃ k : Nat, k ≤ M ∧ i = .int .i64 k ∧ RIn w wr F b0 R (packE E k) (512 - tot (L1.take k)) A c #[.int .u64 v.r, .int .u64 v.a, .int .u64 v.b, .int .i64 p, .int .i64 s, .slice Au n cu] (.slice Au n cu) v.d) (fun i _ => M - (intOf i).toNat)
          case atStart => exact ⟨0, by omega, rfl, by rw [packE_zero]; simpa [tot] using HJ.out⟩
          case round =>
            obtain ⟨k, hk, rfl, hin⟩ := hrel
            have HK := Lib.hid hin
            have hPL : (packE E k).length = M := by rw [packE_len, hML]
            clear hin
            by_cases hlt : k < M
            · have hlt' : (k : Int) < M := by omega
              obtain ⟨⟨o, uu⟩, hek⟩ : ∃ e, (E)[k]? = some e := ⟨_, List.getElem?_eq_getElem (by omega)⟩
              have hpk := packE_at hek
              have hkP : k < (packE E k).length := by rw [hPL]; exact hlt
              obtain ⟨g, cur, hAg, _, _, _, _⟩ := HK.out.rf.arr hkP
              have hLk : L1[k]? = some o := by rw [← HE1.out]; exact map_at hek
              have x0 := HK.out.rf.blk.cell 0
              have x1 := HK.out.rf.blk.cell 1
              have f1 := HK.out.rf.blk.frozen 1
              rw [hPL] at x0
              have hk0 : (0 : Int) ≤ k := by omega
              cases o with
              | none =>
                obtain ⟨y0, y1, y2, y3, y4, y5, y6, y7⟩ := HK.out.rf.free8 hpk hAg
                have HPE := Lib.hid (packE_none hek)
                have HTT : Hid (tot (L1.take (k + 1)) = tot (L1.take k)) := Lib.hid (by rw [tot_take_succ hLk]; rfl)
                subst hAg
                clear hek hpk hLk
                go_wp2_with fail
                go_roundw
                case rel => exact ⟨k + 1, by omega, by go_num, by rw [HPE.out, HTT.out]; exact HK.out.below (bel_alloc _ _)⟩
                case measure => simp [intOf]; omega
              | some x =>
                obtain ⟨xv, xf⟩ := x
                obtain ⟨y0, y1, y2, y3, y4, y5, y6, y7⟩ := HK.out.rf.full8 hpk hAg
                obtain ⟨Ax, cx, rfl, _⟩ := Sl.of_own (HK.out.rf.data k xv xf uu hpk).1
                have z7 := HK.out.rf.frozen hkP hAg (k * 8 + 7)
                have HPE := Lib.hid (packE_some hek)
                have htk : tot (L1.take (k + 1)) = tot (L1.take k) + (30 + xv.d.length) := tot_take_succ hLk
                have htk2 := tot_take_le L1 (k + 1)
                obtain ⟨a1, ha1⟩ : ∃ a1, 512 - tot (L1.take k) = a1 := ⟨_, rfl⟩
                obtain ⟨a2, ha2⟩ : ∃ a2, 512 - tot (L1.take (k + 1)) = a2 := ⟨_, rfl⟩
                have haa : (a1 : Int) - (30 + (xv.d.length : Int)) = a2 := by omega
                rw [HE1.out, ha2] at HPE
                rw [ha1] at HK x1
                have HA2 := Lib.hid ha2
                go_upto_region 22 with fail
                obtain ⟨w20, hw20⟩ : ∃ w20, wr.alloc (.cells #[.bool true, .int .u64 xv.r, .int .u64 xv.a, .int .u64 xv.b, .int .i64 ((xv.p : Int) - 1), .int .i64 ((xv.s : Int) - 1), .slice Ax xv.d.length cx, .int .i64 xf] 122) = w20 := ⟨_, rfl⟩
                obtain ⟨B9, hB9⟩ : ∃ B9, wr.heap.size = B9 := ⟨_, rfl⟩
                have hbx : Blk w20 B9 122 #[.bool true, .int .u64 xv.r, .int .u64 xv.a, .int .u64 xv.b, .int .i64 ((xv.p : Int) - 1), .int .i64 ((xv.s : Int) - 1), .slice Ax xv.d.length cx, .int .i64 xf] := by rw [← hw20, ← hB9]; exact Blk.new wr _ _
                have HK20 := Lib.hid (HK.out.below (bel_alloc wr (.cells #[.bool true, .int .u64 xv.r, .int .u64 xv.a, .int .u64 xv.b, .int .i64 ((xv.p : Int) - 1), .int .i64 ((xv.s : Int) - 1), .slice Ax xv.d.length cx, .int .i64 xf] 122)))
                have HNX := Lib.hid ((HK20.out.setSt a2).put (n := a2) hpk hAg)
                rw [← HPE.out] at HNX
                rw [hw20] at HK20 HNX ⊢
                rw [hB9]
                have b0' := hbx.cell 0
                have b6' := hbx.cell 6
                clear x0 x1 f1 y0 y1 y2 y3 y4 y5 y6 y7 hw20 hB9
                have x0 := HK20.out.rf.blk.cell 0
                have x1 := HK20.out.rf.blk.cell 1
                have f1 := HK20.out.rf.blk.frozen 1
                rw [hPL] at x0
                go_wp2_with fail
                go_region
                clear x0 x1 f1 b0' b6' hbx
                go_upto_region 24 with fail
                obtain ⟨w21, hw21⟩ : ∃ w21, w20.setCell ⟨R, 1, none⟩ (.int .i64 (a2 : Nat)) = w21 := ⟨_, rfl⟩
                have HK21 := Lib.hid (HK20.out.setSt a2)
                rw [hw21] at HK21 HNX ⊢
                clear hw21
                have x0 := HK21.out.rf.blk.cell 0
                have x1 := HK21.out.rf.blk.cell 1
                rw [hPL] at x0
                obtain ⟨y0, y1, y2, y3, y4, y5, y6, y7⟩ := HK21.out.rf.full8 hpk hAg
                have z7 := HK21.out.rf.frozen hkP hAg (k * 8 + 7)
                subst hAg
                clear hek hpk hLk ha2
                go_region
                go_wp2_with fail
                go_roundw
                case rel => exact ⟨k + 1, by omega, by go_num, by rw [HA2.out]; first | exact HNX.out.drewN _ | exact HNX.out.drew | exact HNX.out.drew.drew⟩
                case measure => simp [intOf]; omega
            · obtain rfl : k = M := by omega
              have hpm : (packE E k).map Prod.fst = packL L1 := by rw [← hML, packE_end, HE1.out]
              have HFE : Hid (((packE E k).set q (some (v, 512 - tot L1 - v.sz), (.slice Au n cu))).map Prod.fst = (insS L st v).1) := Lib.hid (by rw [HFI.out, ents_map_set, hpm, HIN.out.2.1])
              have HFS : Hid ((insS L st v).2 = 512 - tot L1 - v.sz) := Lib.hid (by rw [HFI.out, HIN.out.2.1])
              have HE2L : Hid (q < (packE E k).length) := Lib.hid (by rw [hPL]; omega)
              have HE2Q : Hid ((packE E k)[q]? = some (none, uq)) := Lib.hid (by rw [packE_get, HE1Q.out]; simp)
              have hlk : L1.length = k := HIN.out.1
              rw [← hlk, List.take_length] at HK
              rw [hlk] at HK
              have hat : ((512 - tot L1 : Nat) : Int) - (30 + (n : Int)) = ((512 - tot L1 - v.sz : Nat) : Int) := by omega
              obtain ⟨a3, ha3⟩ : ∃ a3, 512 - tot L1 = a3 := ⟨_, rfl⟩
              rw [ha3] at hat HK HFE HFS
              obtain ⟨a4, ha4⟩ : ∃ a4, a3 - v.sz = a4 := ⟨_, rfl⟩
              rw [ha4] at hat HFE HFS
              clear hpm hlk
              have x0 := HK.out.rf.blk.cell 0
              have x1 := HK.out.rf.blk.cell 1
              have f1 := HK.out.rf.blk.frozen 1
              go_upto_region 27 with fail
              clear x0 x1 f1
              obtain ⟨w12, hw12⟩ : ∃ w12, wr.setCell ⟨R, 1, none⟩ (.int .i64 (a4 : Nat)) = w12 := ⟨_, rfl⟩
              have HI3 : Hid (RIn w w12 F b0 R (packE E k) a4 A c #[.int .u64 v.r, .int .u64 v.a, .int .u64 v.b, .int .i64 p, .int .i64 s, .slice Au n cu] (.slice Au n cu) v.d) := Lib.hid (by rw [← hw12]; exact HK.out.setSt _)
              rw [hw12]
              clear hw12
              obtain ⟨g, cur, hAg, _, _, _, _⟩ := HI3.out.rf.arr HE2L.out
              have HAG := Lib.hid hAg
              have HI4 := Lib.hid ((HI3.out.putE (n := a4) (v := v) (e' := (some (v, a4), (.slice Au n cu))) HE2L.out hAg rfl rfl).drew)
              rw [HENT.out a4] at HI4
              obtain ⟨y0, y1, y2, y3, y4, y5, y6, y7⟩ := HI3.out.rf.free8 HE2Q.out hAg
              have z0 := HI3.out.rf.frozen HE2L.out hAg (q * 8)
              have z1 := HI3.out.rf.frozen HE2L.out hAg (q * 8 + 1)
              have z2 := HI3.out.rf.frozen HE2L.out hAg (q * 8 + 2)
              have z3 := HI3.out.rf.frozen HE2L.out hAg (q * 8 + 3)
              have z4 := HI3.out.rf.frozen HE2L.out hAg (q * 8 + 4)
              have z5 := HI3.out.rf.frozen HE2L.out hAg (q * 8 + 5)
              have z6 := HI3.out.rf.frozen HE2L.out hAg (q * 8 + 6)
              have z7 := HI3.out.rf.frozen HE2L.out hAg (q * 8 + 7)
              have x0 := HI3.out.rf.blk.cell 0
              have x1 := HI3.out.rf.blk.cell 1
              have q0 := HI3.out.box.cell 0
              have q1 := HI3.out.box.cell 1
              have q2 := HI3.out.box.cell 2
              have q3 := HI3.out.box.cell 3
              have q4 := HI3.out.box.cell 4
              have q5 := HI3.out.box.cell 5
              have hql := HE2L.out
              have hql' : (q : Int) < ((packE E k)).length := by omega
              have hq0 : (0 : Int) ≤ q := by omega
              subst hAg
              go_region
              all_goals (go_wp2_with fail; go_ret2)
              all_goals refine ⟨by rw [HLL.out, HQ.out]; rfl, ?_, HI4.out.tur⟩
              all_goals exact ⟨((packE E k)).set q (some (v, a4), (.slice Au n cu)), by rw [HLL.out, HFE.out], _, _, by rw [HLL.out, HFS.out]; exact HI4.out.rf⟩
        · have HFI := Lib.hid (HIN.out.2.2.2 hc)
          have hk1 : ¬ (st : Int) - (30 + (n : Int)) < 4 + 4 * (M : Int) := by omega
          have hat : (st : Int) - (30 + (n : Int)) = ((st - v.sz : Nat) : Int) := by omega
          have HFE : Hid (((E).set q (some (v, st - v.sz), (.slice Au n cu))).map Prod.fst = (insS L st v).1) := Lib.hid (by rw [HFI.out, ents_map_set, HE1.out])
          have HFS : Hid ((insS L st v).2 = st - v.sz) := Lib.hid (by rw [HFI.out])
          have HE2L : Hid (q < (E).length) := Lib.hid (by omega)
          have HE2Q := HE1Q
          obtain ⟨a4, ha4⟩ : ∃ a4, st - v.sz = a4 := ⟨_, rfl⟩
          rw [ha4] at hat HFE HFS
          rw [hML] at x0
          have HAT := Lib.hid hat
          clear hat
          go_wp2_with fail
          go_quiet (fail)
          go_upto_region 26 with fail
          clear x0 x1 x5 f1
          have hat := HAT.out
          have HI2 := Lib.hid (HI.out.drewN nq)
          have x0 := HI2.out.rf.blk.cell 0
          have x1 := HI2.out.rf.blk.cell 1
          have f1 := HI2.out.rf.blk.frozen 1
          go_upto_region 27 with fail
          clear x0 x1 f1
          obtain ⟨w12, hw12⟩ : ∃ w12, (w9.drewN nq).setCell ⟨R, 1, none⟩ (.int .i64 (a4 : Nat)) = w12 := ⟨_, rfl⟩
          have HI3 : Hid (RIn w w12 F b0 R E a4 A c #[.int .u64 v.r, .int .u64 v.a, .int .u64 v.b, .int .i64 p, .int .i64 s, .slice Au n cu] (.slice Au n cu) v.d) := Lib.hid (by rw [← hw12]; exact HI2.out.setSt _)
          rw [hw12]
          clear hw12
          obtain ⟨g, cur, hAg, _, _, _, _⟩ := HI3.out.rf.arr HE2L.out
          have HAG := Lib.hid hAg
          have HI4 := Lib.hid ((HI3.out.putE (n := a4) (v := v) (e' := (some (v, a4), (.slice Au n cu))) HE2L.out hAg rfl rfl).drew)
          rw [HENT.out a4] at HI4
          obtain ⟨y0, y1, y2, y3, y4, y5, y6, y7⟩ := HI3.out.rf.free8 HE2Q.out hAg
          have z0 := HI3.out.rf.frozen HE2L.out hAg (q * 8)
          have z1 := HI3.out.rf.frozen HE2L.out hAg (q * 8 + 1)
          have z2 := HI3.out.rf.frozen HE2L.out hAg (q * 8 + 2)
          have z3 := HI3.out.rf.frozen HE2L.out hAg (q * 8 + 3)
          have z4 := HI3.out.rf.frozen HE2L.out hAg (q * 8 + 4)
          have z5 := HI3.out.rf.frozen HE2L.out hAg (q * 8 + 5)
          have z6 := HI3.out.rf.frozen HE2L.out hAg (q * 8 + 6)
          have z7 := HI3.out.rf.frozen HE2L.out hAg (q * 8 + 7)
          have x0 := HI3.out.rf.blk.cell 0
          have x1 := HI3.out.rf.blk.cell 1
          have q0 := HI3.out.box.cell 0
          have q1 := HI3.out.box.cell 1
          have q2 := HI3.out.box.cell 2
          have q3 := HI3.out.box.cell 3
          have q4 := HI3.out.box.cell 4
          have q5 := HI3.out.box.cell 5
          have hql := HE2L.out
          have hql' : (q : Int) < (E).length := by omega
          have hq0 : (0 : Int) ≤ q := by omega
          subst hAg
          go_region
          all_goals (go_wp2_with fail; go_ret2)
          all_goals refine ⟨by rw [HLL.out, HQ.out]; rfl, ?_, HI4.out.tur⟩
          all_goals exact ⟨(E).set q (some (v, a4), (.slice Au n cu)), by rw [HLL.out, HFE.out], _, _, by rw [HLL.out, HFS.out]; exact HI4.out.rf⟩
      · have hqE : q = L.length := by omega
        have hqe : ((q : Int) == (E.length : Int)) = true := by rw [beq_iff_eq]; omega
        have hqN := Lib.hid hqE
        clear hqE
        have HI := Lib.hid (HI0.out.drewN m)
        have x0 := HI0.out.rf.blk.cell 0
        have x1 := HI0.out.rf.blk.cell 1
        clear H5 H6 HT5 HU5 HB5
        go_upto_region 16 with (at_builtin; go_loud (refine wpl_app_slot rfl (.tmp 62) (.tmp 64) rfl 0 _ E.length (ents E) rfl (World.ownsRow.alloc HI.out.rf.own _) _ _ 1 (ents [e0]) rfl (lies_at _ zSlot _ 8 1 w5.heap.size rfl rfl) e0_one (by omega) (Nat.zero_le _) ?_; intro v1 w7 hown1 hg1; obtain ⟨A1, c1, hv1, _⟩ := Sl.of_own hown1; subst hv1; have hb1 : Blk w7 R 45 #[.slice A E.length c, .int .i64 st] := (hg1.1.block R (Blk.lt (Blk.alloc HI.out.rf.blk _)) (own_blk_ne HI.out.rf.own HI.out.rf.blk (by decide)).symm).trans (Blk.alloc HI.out.rf.blk _); have hc0 := hb1.cell 0; have hf0 := hb1.frozen 0))
        have HG := Lib.hid ((HI.out.below (bel_alloc _ (.cells zSlot 122))).grow (e := e0) (fun v f u hh => by cases congrArg Prod.fst hh) hown1 hg1)
        obtain ⟨w9, hw9⟩ : ∃ w9, w7.setCell ⟨R, 0, none⟩ (.slice A1 (E.length + 1) c1) = w9 := ⟨_, rfl⟩
        rw [hw9] at HG ⊢
        clear hw9 hb1 hc0 hf0 hg1 hown1 HI x0 x1 hqe HI0
        have hqE := hqN.out
        rw [show E.length = q by omega]
        obtain ⟨L1, hL1⟩ : ∃ L1, L ++ [none] = L1 := ⟨_, rfl⟩
        have HIN := Lib.hid (ins_eq (L := L) (L1 := L1) (st := st) (q := q) (M := M) (v := v) HQ.out hqle (.inr ⟨hqE, hL1.symm⟩) hM)
        obtain ⟨E1, hE1⟩ : ∃ E1, E ++ [e0] = E1 := ⟨_, rfl⟩
        have HE1 : Hid (E1.map Prod.fst = L1) := Lib.hid (by rw [← hE1, List.map_append, HLL.out, ← hL1]; rfl)
        have hML : E1.length = M := by rw [← hE1, List.length_append]; simp; omega
        have HE1Q : Hid (E1[q]? = some (none, .slice none 0 0)) := Lib.hid (by rw [← hE1, List.getElem?_append_right (by omega), hqE, hLl, Nat.sub_self]; rfl)
        obtain ⟨uq, huq⟩ : ∃ uq, (Value.slice none 0 0) = uq := ⟨_, rfl⟩
        rw [huq] at HE1Q
        rw [hE1] at HG
        have hqM : q < M := by omega
        have HI := HG
        clear hE1 hL1 HG huq hqE
        have x0 := HI.out.rf.blk.cell 0
        have x1 := HI.out.rf.blk.cell 1
        have x5 := HI.out.box.cell 5
        have f1 := HI.out.rf.blk.frozen 1
        have hz : v.sz = 30 + n := by show 30 + v.d.length = _; rw [HN.out]
        have HENT : Hid (∀ a : Nat, entV (some (v, a), (.slice Au n cu)) = [.bool true, .int .u64 v.r, .int .u64 v.a, .int .u64 v.b, .int .i64 p, .int .i64 s, (.slice Au n cu), .int .i64 a]) := Lib.hid (fun a => by simp only [entV, HPS.out.1, HPS.out.2])
        by_cases hc : st < v.sz + (4 + 4 * M)
        · have HFI := Lib.hid (HIN.out.2.2.1 hc)
          have htl : tot L1 + n ≤ 478 := by rw [HIN.out.2.1]; omega
          have hk1 : (st : Int) - (30 + (n : Int)) < 4 + 4 * (M : Int) := by omega
          rw [hML] at x0
          go_wp2_with fail
          go_quiet (fail)
          clear x5
          go_upto_region 19 with fail
          obtain ⟨w10, hw10⟩ : ∃ w10, (w9.drewN nq).setCell ⟨R, 1, none⟩ (.int .i64 512) = w10 := ⟨_, rfl⟩
          have HJ : Hid (RIn w w10 F b0 R E1 512 A1 c1 #[.int .u64 v.r, .int .u64 v.a, .int .u64 v.b, .int .i64 p, .int .i64 s, .slice Au n cu] (.slice Au n cu) v.d) := Lib.hid (by rw [← hw10]; exact (HI.out.drewN _).setSt 512)
          rw [hw10]
          clear hw10 x0 x1 f1
          have x0 := HJ.out.rf.blk.cell 0
          rw [hML] at x0
          go_wp2_with fail
          clear x0
          go_loopw [94] (fun i wr => ∃ k : Nat, k ≤ M ∧ i = .int .i64 k ∧ RIn w wr F b0 R (packE E1 k) (512 - tot (L1.take k)) A1 c1 #[.int .u64 v.r, .int .u64 v.a, .int .u64 v.b, .int .i64 p, .int .i64 s, .slice Au n cu] (.slice Au n cu) v.d) (fun i _ => M - (intOf i).toNat)
          case atStart => exact ⟨0, by omega, rfl, by rw [packE_zero]; simpa [tot] using HJ.out⟩
          case round =>
            obtain ⟨k, hk, rfl, hin⟩ := hrel
            have HK := Lib.hid hin
            have hPL : (packE E1 k).length = M := by rw [packE_len, hML]
            clear hin
            by_cases hlt : k < M
            · have hlt' : (k : Int) < M := by omega
              obtain ⟨⟨o, uu⟩, hek⟩ : ∃ e, (E1)[k]? = some e := ⟨_, List.getElem?_eq_getElem (by omega)⟩
              have hpk := packE_at hek
              have hkP : k < (packE E1 k).length := by rw [hPL]; exact hlt
              obtain ⟨g, cur, hAg, _, _, _, _⟩ := HK.out.rf.arr hkP
              have hLk : L1[k]? = some o := by rw [← HE1.out]; exact map_at hek
              have x0 := HK.out.rf.blk.cell 0
              have x1 := HK.out.rf.blk.cell 1
              have f1 := HK.out.rf.blk.frozen 1
              rw [hPL] at x0
              have hk0 : (0 : Int) ≤ k := by omega
              cases o with
              | none =>
                obtain ⟨y0, y1, y2, y3, y4, y5, y6, y7⟩ := HK.out.rf.free8 hpk hAg
                have HPE := Lib.hid (packE_none hek)
                have HTT : Hid (tot (L1.take (k + 1)) = tot (L1.take k)) := Lib.hid (by rw [tot_take_succ hLk]; rfl)
                subst hAg
                clear hek hpk hLk
                go_wp2_with fail
                go_roundw
                case rel => exact ⟨k + 1, by omega, by go_num, by rw [HPE.out, HTT.out]; exact HK.out.below (bel_alloc _ _)⟩
                case measure => simp [intOf]; omega
              | some x =>
                obtain ⟨xv, xf⟩ := x
                obtain ⟨y0, y1, y2, y3, y4, y5, y6, y7⟩ := HK.out.rf.full8 hpk hAg
                obtain ⟨Ax, cx, rfl, _⟩ := Sl.of_own (HK.out.rf.data k xv xf uu hpk).1
                have z7 := HK.out.rf.frozen hkP hAg (k * 8 + 7)
                have HPE := Lib.hid (packE_some hek)
                have htk : tot (L1.take (k + 1)) = tot (L1.take k) + (30 + xv.d.length) := tot_take_succ hLk
                have htk2 := tot_take_le L1 (k + 1)
                obtain ⟨a1, ha1⟩ : ∃ a1, 512 - tot (L1.take k) = a1 := ⟨_, rfl⟩
                obtain ⟨a2, ha2⟩ : ∃ a2, 512 - tot (L1.take (k + 1)) = a2 := ⟨_, rfl⟩
                have haa : (a1 : Int) - (30 + (xv.d.length : Int)) = a2 := by omega
                rw [HE1.out, ha2] at HPE
                rw [ha1] at HK x1
                have HA2 := Lib.hid ha2
                go_upto_region 22 with fail
                obtain ⟨w20, hw20⟩ : ∃ w20, wr.alloc (.cells #[.bool true, .int .u64 xv.r, .int .u64 xv.a, .int .u64 xv.b, .int .i64 ((xv.p : Int) - 1), .int .i64 ((xv.s : Int) - 1), .slice Ax xv.d.length cx, .int .i64 xf] 122) = w20 := ⟨_, rfl⟩
                obtain ⟨B9, hB9⟩ : ∃ B9, wr.heap.size = B9 := ⟨_, rfl⟩
                have hbx : Blk w20 B9 122 #[.bool true, .int .u64 xv.r, .int .u64 xv.a, .int .u64 xv.b, .int .i64 ((xv.p : Int) - 1), .int .i64 ((xv.s : Int) - 1), .slice Ax xv.d.length cx, .int .i64 xf] := by rw [← hw20, ← hB9]; exact Blk.new wr _ _
                have HK20 := Lib.hid (HK.out.below (bel_alloc wr (.cells #[.bool true, .int .u64 xv.r, .int .u64 xv.a, .int .u64 xv.b, .int .i64 ((xv.p : Int) - 1), .int .i64 ((xv.s : Int) - 1), .slice Ax xv.d.length cx, .int .i64 xf] 122)))
                have HNX := Lib.hid ((HK20.out.setSt a2).put (n := a2) hpk hAg)
                rw [← HPE.out] at HNX
                rw [hw20] at HK20 HNX ⊢
                rw [hB9]
                have b0' := hbx.cell 0
                have b6' := hbx.cell 6
                clear x0 x1 f1 y0 y1 y2 y3 y4 y5 y6 y7 hw20 hB9
                have x0 := HK20.out.rf.blk.cell 0
                have x1 := HK20.out.rf.blk.cell 1
                have f1 := HK20.out.rf.blk.frozen 1
                rw [hPL] at x0
                go_wp2_with fail
                go_region
                clear x0 x1 f1 b0' b6' hbx
                go_upto_region 24 with fail
                obtain ⟨w21, hw21⟩ : ∃ w21, w20.setCell ⟨R, 1, none⟩ (.int .i64 (a2 : Nat)) = w21 := ⟨_, rfl⟩
                have HK21 := Lib.hid (HK20.out.setSt a2)
                rw [hw21] at HK21 HNX ⊢
                clear hw21
                have x0 := HK21.out.rf.blk.cell 0
                have x1 := HK21.out.rf.blk.cell 1
                rw [hPL] at x0
                obtain ⟨y0, y1, y2, y3, y4, y5, y6, y7⟩ := HK21.out.rf.full8 hpk hAg
                have z7 := HK21.out.rf.frozen hkP hAg (k * 8 + 7)
                subst hAg
                clear hek hpk hLk ha2
                go_region
                go_wp2_with fail
                go_roundw
                case rel => exact ⟨k + 1, by omega, by go_num, by rw [HA2.out]; first | exact HNX.out.drewN _ | exact HNX.out.drew | exact HNX.out.drew.drew⟩
                case measure => simp [intOf]; omega
            · obtain rfl : k = M := by omega
              have hpm : (packE E1 k).map Prod.fst = packL L1 := by rw [← hML, packE_end, HE1.out]
              have HFE : Hid (((packE E1 k).set q (some (v, 512 - tot L1 - v.sz), (.slice Au n cu))).map Prod.fst = (insS L st v).1) := Lib.hid (by rw [HFI.out, ents_map_set, hpm, HIN.out.2.1])
              have HFS : Hid ((insS L st v).2 = 512 - tot L1 - v.sz) := Lib.hid (by rw [HFI.out, HIN.out.2.1])
              have HE2L : Hid (q < (packE E1 k).length) := Lib.hid (by rw [hPL]; omega)
              have HE2Q : Hid ((packE E1 k)[q]? = some (none, uq)) := Lib.hid (by rw [packE_get, HE1Q.out]; simp)
              have hlk : L1.length = k := HIN.out.1
              rw [← hlk, List.take_length] at HK
              rw [hlk] at HK
              have hat : ((512 - tot L1 : Nat) : Int) - (30 + (n : Int)) = ((512 - tot L1 - v.sz : Nat) : Int) := by omega
              obtain ⟨a3, ha3⟩ : ∃ a3, 512 - tot L1 = a3 := ⟨_, rfl⟩
              rw [ha3] at hat HK HFE HFS
              obtain ⟨a4, ha4⟩ : ∃ a4, a3 - v.sz = a4 := ⟨_, rfl⟩
              rw [ha4] at hat HFE HFS
              clear hpm hlk
              have x0 := HK.out.rf.blk.cell 0
              have x1 := HK.out.rf.blk.cell 1
              have f1 := HK.out.rf.blk.frozen 1
              go_upto_region 27 with fail
              clear x0 x1 f1
              obtain ⟨w12, hw12⟩ : ∃ w12, wr.setCell ⟨R, 1, none⟩ (.int .i64 (a4 : Nat)) = w12 := ⟨_, rfl⟩
              have HI3 : Hid (RIn w w12 F b0 R (packE E1 k) a4 A1 c1 #[.int .u64 v.r, .int .u64 v.a, .int .u64 v.b, .int .i64 p, .int .i64 s, .slice Au n cu] (.slice Au n cu) v.d) := Lib.hid (by rw [← hw12]; exact HK.out.setSt _)
              rw [hw12]
              clear hw12
              obtain ⟨g, cur, hAg, _, _, _, _⟩ := HI3.out.rf.arr HE2L.out
              have HAG := Lib.hid hAg
              have HI4 := Lib.hid ((HI3.out.putE (n := a4) (v := v) (e' := (some (v, a4), (.slice Au n cu))) HE2L.out hAg rfl rfl).drew)
              rw [HENT.out a4] at HI4
              obtain ⟨y0, y1, y2, y3, y4, y5, y6, y7⟩ := HI3.out.rf.free8 HE2Q.out hAg
              have z0 := HI3.out.rf.frozen HE2L.out hAg (q * 8)
              have z1 := HI3.out.rf.frozen HE2L.out hAg (q * 8 + 1)
              have z2 := HI3.out.rf.frozen HE2L.out hAg (q * 8 + 2)
              have z3 := HI3.out.rf.frozen HE2L.out hAg (q * 8 + 3)
              have z4 := HI3.out.rf.frozen HE2L.out hAg (q * 8 + 4)
              have z5 := HI3.out.rf.frozen HE2L.out hAg (q * 8 + 5)
              have z6 := HI3.out.rf.frozen HE2L.out hAg (q * 8 + 6)
              have z7 := HI3.out.rf.frozen HE2L.out hAg (q * 8 + 7)
              have x0 := HI3.out.rf.blk.cell 0
              have x1 := HI3.out.rf.blk.cell 1
              have q0 := HI3.out.box.cell 0
              have q1 := HI3.out.box.cell 1
              have q2 := HI3.out.box.cell 2
              have q3 := HI3.out.box.cell 3
              have q4 := HI3.out.box.cell 4
              have q5 := HI3.out.box.cell 5
              have hql := HE2L.out
              have hql' : (q : Int) < ((packE E1 k)).length := by omega
              have hq0 : (0 : Int) ≤ q := by omega
              subst hAg
              go_region
              all_goals (go_wp2_with fail; go_ret2)
              all_goals refine ⟨by rw [HLL.out, HQ.out]; rfl, ?_, HI4.out.tur⟩
              all_goals exact ⟨((packE E1 k)).set q (some (v, a4), (.slice Au n cu)), by rw [HLL.out, HFE.out], _, _, by rw [HLL.out, HFS.out]; exact HI4.out.rf⟩
        · have HFI := Lib.hid (HIN.out.2.2.2 hc)
          have hk1 : ¬ (st : Int) - (30 + (n : Int)) < 4 + 4 * (M : Int) := by omega
          have hat : (st : Int) - (30 + (n : Int)) = ((st - v.sz : Nat) : Int) := by omega
          have HFE : Hid (((E1).set q (some (v, st - v.sz), (.slice Au n cu))).map Prod.fst = (insS L st v).1) := Lib.hid (by rw [HFI.out, ents_map_set, HE1.out])
          have HFS : Hid ((insS L st v).2 = st - v.sz) := Lib.hid (by rw [HFI.out])
          have HE2L : Hid (q < (E1).length) := Lib.hid (by omega)
          have HE2Q := HE1Q
          obtain ⟨a4, ha4⟩ : ∃ a4, st - v.sz = a4 := ⟨_, rfl⟩
          rw [ha4] at hat HFE HFS
          rw [hML] at x0
          have HAT := Lib.hid hat
          clear hat
          go_wp2_with fail
          go_quiet (fail)
          go_upto_region 26 with fail
          clear x0 x1 x5 f1
          have hat := HAT.out
          have HI2 := Lib.hid (HI.out.drewN nq)
          have x0 := HI2.out.rf.blk.cell 0
          have x1 := HI2.out.rf.blk.cell 1
          have f1 := HI2.out.rf.blk.frozen 1
          go_upto_region 27 with fail
          clear x0 x1 f1
          obtain ⟨w12, hw12⟩ : ∃ w12, (w9.drewN nq).setCell ⟨R, 1, none⟩ (.int .i64 (a4 : Nat)) = w12 := ⟨_, rfl⟩
          have HI3 : Hid (RIn w w12 F b0 R E1 a4 A1 c1 #[.int .u64 v.r, .int .u64 v.a, .int .u64 v.b, .int .i64 p, .int .i64 s, .slice Au n cu] (.slice Au n cu) v.d) := Lib.hid (by rw [← hw12]; exact HI2.out.setSt _)
          rw [hw12]
          clear hw12
          obtain ⟨g, cur, hAg, _, _, _, _⟩ := HI3.out.rf.arr HE2L.out
          have HAG := Lib.hid hAg
          have HI4 := Lib.hid ((HI3.out.putE (n := a4) (v := v) (e' := (some (v, a4), (.slice Au n cu))) HE2L.out hAg rfl rfl).drew)
          rw [HENT.out a4] at HI4
          obtain ⟨y0, y1, y2, y3, y4, y5, y6, y7⟩ := HI3.out.rf.free8 HE2Q.out hAg
          have z0 := HI3.out.rf.frozen HE2L.out hAg (q * 8)
          have z1 := HI3.out.rf.frozen HE2L.out hAg (q * 8 + 1)
          have z2 := HI3.out.rf.frozen HE2L.out hAg (q * 8 + 2)
          have z3 := HI3.out.rf.frozen HE2L.out hAg (q * 8 + 3)
          have z4 := HI3.out.rf.frozen HE2L.out hAg (q * 8 + 4)
          have z5 := HI3.out.rf.frozen HE2L.out hAg (q * 8 + 5)
          have z6 := HI3.out.rf.frozen HE2L.out hAg (q * 8 + 6)
          have z7 := HI3.out.rf.frozen HE2L.out hAg (q * 8 + 7)
          have x0 := HI3.out.rf.blk.cell 0
          have x1 := HI3.out.rf.blk.cell 1
          have q0 := HI3.out.box.cell 0
          have q1 := HI3.out.box.cell 1
          have q2 := HI3.out.box.cell 2
          have q3 := HI3.out.box.cell 3
          have q4 := HI3.out.box.cell 4
          have q5 := HI3.out.box.cell 5
          have hql := HE2L.out
          have hql' : (q : Int) < (E1).length := by omega
          have hq0 : (0 : Int) ≤ q := by omega
          subst hAg
          go_region
          all_goals (go_wp2_with fail; go_ret2)
          all_goals refine ⟨by rw [HLL.out, HQ.out]; rfl, ?_, HI4.out.tur⟩
          all_goals exact ⟨(E1).set q (some (v, a4), (.slice Au n cu)), by rw [HLL.out, HFE.out], _, _, by rw [HLL.out, HFS.out]; exact HI4.out.rf⟩
end
end Go.Proofs.Ytbkdbnkakjogjaa.Mem
/- The page and its reference side by side: one answer, one new state for both. -/
namespace Go.Proofs.Ytbkdbnkakjogjaa.Mem
open Go.RowKit Go.Proofs.Ytbkdbnkakjogjaa.Nums
set_option linter.unusedVariables false
set_option linter.unusedSimpArgs false
set_option maxRecDepth 100000
set_option maxHeartbeats 400000
theorem trim_ex : ∀ (n : Nat) (M : SL), M.length = n → ∃ k, IsTrim M k
  | 0, M, h => ⟨0, by omega, fun j h1 h2 => absurd h2 (by omega), fun h => absurd h (by omega)⟩
  | n + 1, M, h => by
    obtain ⟨o, ho⟩ : ∃ o, M[n]? = some o := ⟨_, List.getElem?_eq_getElem (by omega)⟩
    cases o with
    | some x => exact ⟨n + 1, by omega, fun j h1 h2 => absurd h2 (by omega), fun _ => ⟨x, ho⟩⟩
    | none =>
      obtain ⟨k, hk⟩ := trim_ex n (M.take n) (by rw [List.length_take]; omega)
      have hkl := hk.le
      rw [List.length_take] at hkl
      refine ⟨k, by omega, fun j h1 h2 => ?_, fun h0 => ?_⟩
      · by_cases hj : j = n
        · subst hj; exact ho
        · have := hk.free j h1 (by rw [List.length_take]; omega)
          rwa [List.getElem?_take, if_pos (by omega)] at this
      · obtain ⟨x, hx⟩ := hk.last h0
        rw [List.getElem?_take, if_pos (by omega)] at hx
        exact ⟨x, hx⟩
/-- what Stamp answers, and the slots behind it -/
def stampR (L : SL) (i : Int) (U : Nat) (p s : Int) : Int × SL :=
  if U ≤ 1099511627776 ∧ nxOk p s = true then (match atL L i with
    | none => (15, L)
    | some (v, f) => (0, L.set i.toNat (some (v.stamped U (p + 1).toNat (s + 1).toNat, f)))) else (3, L)
/-- .. Free's -/
def FreeTo (L : SL) (i : Int) (x : Int) (L' : SL) : Prop :=
  (atL L i = none ∧ x = 15 ∧ L' = L) ∨ (∃ v f k, atL L i = some (v, f) ∧ x = 0 ∧ IsTrim (L.set i.toNat none) k ∧ L' = (L.set i.toNat none).take k)
theorem free_ex (L : SL) (i : Int) : ∃ x L', FreeTo L i x L' := by
  cases h : atL L i with
  | none => exact ⟨15, L, .inl ⟨h, rfl, rfl⟩⟩
  | some y =>
    obtain ⟨k, hk⟩ := trim_ex _ (L.set i.toNat none) rfl
    exact ⟨0, _, .inr ⟨y.1, y.2, k, h, rfl, hk, rfl⟩⟩
def mkV (r a b : Nat) (p s : Int) (d : List UInt8) : Ver := ⟨r, a, b, (p + 1).toNat, (s + 1).toNat, d⟩
/-- .. Insert's -/
def insR (L : SL) (st : Nat) (r a b : Nat) (p s : Int) (d : List UInt8) : Int × Int × SL × Nat :=
  if tuOk r a b p s d.length = true then (if roomL L < (d.length : Int) then (0, 12, L, st) else ((nextL L : Int), 0, (insS L st (mkV r a b p s d)).1, (insS L st (mkV r a b p s d)).2)) else (0, 3, L, st)
theorem tuOk_nx {r a b : Nat} {p s : Int} {n : Nat} (h : tuOk r a b p s n = true) : r ≤ 1099511627776 ∧ a ≤ 1099511627776 ∧ b ≤ 1099511627776 ∧ nxOk p s = true ∧ n ≤ 200 := by
  unfold tuOk at h
  simp only [Bool.and_eq_true, decide_eq_true_eq] at h
  exact ⟨h.1.1.1.1, h.1.1.1.2, h.1.1.2, h.1.2, h.2⟩
theorem nx_to {p s : Int} (h : nxOk p s = true) : (((p + 1).toNat : Nat) : Int) - 1 = p ∧ (((s + 1).toNat : Nat) : Int) - 1 = s ∧ (p + 1).toNat ≤ 65536 ∧ (s + 1).toNat ≤ 65535 ∧ ((p + 1).toNat = 0 ↔ (s + 1).toNat = 0) := by
  unfold nxOk at h
  simp only [Bool.and_eq_true, Bool.or_eq_true, decide_eq_true_eq, beq_iff_eq] at h
  omega
theorem mkV_ok {r a b : Nat} {p s : Int} {d : List UInt8} (h : tuOk r a b p s d.length = true) : (mkV r a b p s d).ok ∧ ∀ u, tupV (mkV r a b p s d) u = .agg #[.int .u64 r, .int .u64 a, .int .u64 b, .int .i64 p, .int .i64 s, u] := by
  obtain ⟨h1, h2, h3, h4, h5⟩ := tuOk_nx h
  obtain ⟨k1, k2, k3, k4, k5⟩ := nx_to h4
  refine ⟨⟨h1, h2, h3, k3, k4, k5, h5⟩, fun u => ?_⟩
  unfold tupV mkV
  rw [k1, k2]
section
variable {w : World} {P R st c n c0 : Nat} {L : SL} {F : Nat → Prop} {E : List Ent} {A A0 : Option Addr}
theorem Hp.small (h : Hp w P L st) : L.length ≤ 127 ∧ st ≤ 512 ∧ ∀ (i : Nat) (v : Ver) (f : Nat), L[i]? = some (some (v, f)) → v.d.length ≤ 200 := by
  obtain ⟨X, _, hx⟩ := h
  have := hx.top
  have := hx.all
  exact ⟨by omega, hx.all, fun i v f hi => (hx.okv i v f hi).d⟩
theorem stampP (h : Hp w P L st) (i : Int) (U : Nat) (p s : Int) :
    Calls Try.prog 38 #[.pointer (some ⟨P, 0, none⟩), .int .i64 i, .int .u64 U, .agg #[.int .i64 p, .int .i64 s]] w fun e w' => e = .returned (.int .i64 (stampR L i U p s).1) ∧ Hp w' P (stampR L i U p s).2 st ∧ Only P w w' := by
  unfold stampR
  by_cases hg : U ≤ 1099511627776 ∧ nxOk p s = true
  · rw [if_pos hg]
    cases ha : atL L i with
    | none =>
      refine (stamp_none P L st i U p s w h ha hg.1 hg.2).mono ?_
      rintro e w' ⟨rfl, hb⟩
      exact ⟨rfl, h.below hb h.lt, Only.of_below hb⟩
    | some x =>
      obtain ⟨v, f⟩ := x
      obtain ⟨k1, k2, k3, k4, k5⟩ := nx_to hg.2
      exact stamp_has P L st i v f U _ _ p s w h ha hg.1 hg.2 (by omega) (by omega)
  · rw [if_neg hg]
    obtain ⟨X, hp, hx⟩ := h
    refine (stamp_form (some ⟨P, 0, none⟩) i U p s w P rfl hg).mono ?_
    rintro e w' ⟨rfl, hb⟩
    exact ⟨rfl, Hp.below ⟨X, hp, hx⟩ hb (Blk.lt hp.1), Only.of_below hb⟩
theorem stampF (h : RfA w F R E st A c) (hL : E.map Prod.fst = L) (i : Int) (U : Nat) (p s : Int) :
    Calls Try.prog 62 #[.pointer (some ⟨R, 0, none⟩), .int .i64 i, .int .u64 U, .agg #[.int .i64 p, .int .i64 s]] w fun e w' => e = .returned (.int .i64 (stampR L i U p s).1) ∧ (∃ E', E'.map Prod.fst = (stampR L i U p s).2 ∧ RfA w' F R E' st A c) ∧ Turn F w w' := by
  unfold stampR
  by_cases hg : U ≤ 1099511627776 ∧ nxOk p s = true
  · rw [if_pos hg]
    cases ha : atL L i with
    | none =>
      refine (rstamp_none h i U p s (by rw [hL]; exact ha) hg.1 hg.2).mono ?_
      rintro e w' ⟨rfl, hb⟩
      exact ⟨rfl, ⟨E, hL, h.below hb⟩, Turn.of_below hb⟩
    | some x =>
      obtain ⟨v, f⟩ := x
      obtain ⟨k1, k2, k3, k4, k5⟩ := nx_to hg.2
      obtain ⟨j, rfl, hj⟩ := atL_some ha
      rw [← hL, List.getElem?_map] at hj
      cases he : E[j]? with
      | none => rw [he] at hj; cases hj
      | some y =>
        obtain ⟨o, u⟩ := y
        rw [he] at hj
        injection hj with hj
        have hj' : o = some (v, f) := hj
        subst hj'
        refine (rstamp_some h j v f u U _ _ p s he hg.1 hg.2 (show p + 1 = ((p + 1).toNat : Int) by omega) (show s + 1 = ((s + 1).toNat : Int) by omega)).mono ?_
        rintro e w' ⟨rfl, hr, ht⟩
        refine ⟨rfl, ⟨_, ?_, hr⟩, ht⟩
        show _ = L.set j _
        rw [ents_map_set, hL]
  · rw [if_neg hg]
    refine (rstamp_form R i U p s w hg).mono ?_
    rintro e w' ⟨rfl, hb⟩
    exact ⟨rfl, ⟨E, hL, h.below hb⟩, Turn.of_below hb⟩
theorem freeP (h : Hp w P L st) (i x : Int) (L' : SL) (hf : FreeTo L i x L') :
    Calls Try.prog 35 #[.pointer (some ⟨P, 0, none⟩), .int .i64 i] w fun e w' => e = .returned (.int .i64 x) ∧ Hp w' P L' st ∧ Only P w w' := by
  rcases hf with ⟨h1, rfl, rfl⟩ | ⟨v, f, k, h1, rfl, h3, rfl⟩
  · refine (free_none P L' st i w h h1).mono ?_
    rintro e w' ⟨rfl, m, rfl⟩
    exact ⟨rfl, h.drewN m, (Only.refl P w).drewN m⟩
  · refine (free_has P L st i v f w h h1).mono ?_
    rintro e w' ⟨rfl, k', hk', hp, ho⟩
    obtain rfl := hk'.eq h3
    exact ⟨rfl, hp, ho⟩
theorem freeF (h : RfA w F R E st A c) (hL : E.map Prod.fst = L) (i x : Int) (L' : SL) (hf : FreeTo L i x L') :
    Calls Try.prog 63 #[.pointer (some ⟨R, 0, none⟩), .int .i64 i] w fun e w' => e = .returned (.int .i64 x) ∧ (∃ E', E'.map Prod.fst = L' ∧ RfA w' F R E' st A c) ∧ Turn F w w' := by
  rcases hf with ⟨h1, rfl, rfl⟩ | ⟨v, f, k, h1, rfl, h3, rfl⟩
  · refine (rfree_of _ i w (rget_none h i (by rw [hL]; exact h1))).mono ?_
    rintro e w' ⟨rfl, hb⟩
    exact ⟨rfl, ⟨E, hL, h.below hb⟩, Turn.of_below hb⟩
  · obtain ⟨j, rfl, hj⟩ := atL_some h1
    rw [← hL, List.getElem?_map] at hj
    cases he : E[j]? with
    | none => rw [he] at hj; cases hj
    | some y =>
      obtain ⟨o, u⟩ := y
      rw [he] at hj
      injection hj with hj
      have hj' : o = some (v, f) := hj
      subst hj'
      refine (rfree_some h j v f u he).mono ?_
      rintro e w' ⟨rfl, k', hk', hr, ht⟩
      rw [hL] at hk'
      have h3' : IsTrim (L.set j none) k := h3
      obtain rfl := hk'.eq h3'
      refine ⟨rfl, ⟨_, ?_, hr⟩, ht⟩
      show _ = (L.set j none).take k'
      rw [List.map_take, ents_map_set, hL]
theorem insP (h : Hp w P L st) (r a b : Nat) (p s : Int) (d : List UInt8) (hn : d.length = n) (hs : Sl w w.heap.size 1 A0 n c0 (u8s d)) :
    Calls Try.prog 34 #[.pointer (some ⟨P, 0, none⟩), .agg #[.int .u64 r, .int .u64 a, .int .u64 b, .int .i64 p, .int .i64 s, .slice A0 n c0]] w fun e w' => e = .returned (.tuple #[.int .i64 (insR L st r a b p s d).1, .int .i64 (insR L st r a b p s d).2.1]) ∧ Hp w' P (insR L st r a b p s d).2.2.1 (insR L st r a b p s d).2.2.2 ∧ Only P w w' := by
  subst hn
  unfold insR
  by_cases hg : tuOk r a b p s d.length = true
  · rw [if_pos hg]
    obtain ⟨hok, htv⟩ := mkV_ok hg
    rw [← htv]
    by_cases hr : roomL L < (d.length : Int)
    · rw [if_pos hr]
      refine (insert_has_full P _ c0 A0 (mkV r a b p s d) L st w h hok rfl hs hr).mono ?_
      rintro e w' ⟨rfl, hb⟩
      exact ⟨rfl, h.below hb h.lt, Only.of_below hb⟩
    · rw [if_neg hr]
      exact insert_has P _ c0 A0 (mkV r a b p s d) L st w h hok rfl hs (by omega)
  · rw [if_neg hg]
    refine (insert_form P r a b _ c0 p s A0 w (by simpa using hg)).mono ?_
    rintro e w' ⟨rfl, hb⟩
    exact ⟨rfl, h.below hb h.lt, Only.of_below hb⟩
theorem insF (h : RfA w F R E st A c) (hL : E.map Prod.fst = L) (hl : L.length ≤ 127) (hst : st ≤ 512) (hvs : ∀ (i : Nat) (v : Ver) (f : Nat), L[i]? = some (some (v, f)) → v.d.length ≤ 200) (r a b : Nat) (p s : Int) (d : List UInt8) (hn : d.length = n) (hs : Sl w w.heap.size 1 A0 n c0 (u8s d)) :
    Calls Try.prog 64 #[.pointer (some ⟨R, 0, none⟩), .agg #[.int .u64 r, .int .u64 a, .int .u64 b, .int .i64 p, .int .i64 s, .slice A0 n c0]] w fun e w' => e = .returned (.tuple #[.int .i64 (insR L st r a b p s d).1, .int .i64 (insR L st r a b p s d).2.1]) ∧ (∃ E' A' c', E'.map Prod.fst = (insR L st r a b p s d).2.2.1 ∧ RfA w' (fun g => F g ∨ (w.heap.size ≤ g ∧ g < w'.heap.size)) R E' (insR L st r a b p s d).2.2.2 A' c') ∧ Turn F w w' := by
  subst hn hL
  rw [List.length_map] at hl
  have keep : ∀ {w'}, Below w.heap.size w w' → RfA w' (fun g => F g ∨ (w.heap.size ≤ g ∧ g < w'.heap.size)) R E st A c := fun hb => (h.below hb).more (fun g hg => .inl hg) (fun g hg => hg.elim (fun k => Nat.lt_of_lt_of_le (h.lt g k) hb.size) (fun k => k.2))
  unfold insR
  by_cases hg : tuOk r a b p s d.length = true
  · rw [if_pos hg]
    obtain ⟨hok, htv⟩ := mkV_ok hg
    rw [← htv]
    by_cases hr : roomL (E.map Prod.fst) < (d.length : Int)
    · rw [if_pos hr]
      refine (rins_full h hl hvs (mkV r a b p s d) A0 c0 hok hs hr).mono ?_
      rintro e w' ⟨rfl, hb⟩
      exact ⟨rfl, ⟨E, A, c, rfl, keep hb⟩, Turn.of_below hb⟩
    · rw [if_neg hr]
      exact rins_ok h hl hst hvs (mkV r a b p s d) A0 c0 hok hs hr
  · rw [if_neg hg]
    refine (rins_form R r a b _ c0 p s A0 w (by simpa using hg)).mono ?_
    rintro e w' ⟨rfl, hb⟩
    exact ⟨rfl, ⟨E, A, c, rfl, keep hb⟩, Turn.of_below hb⟩
end
/-- the page at P and its reference at R, all their blocks newer than w's -/
def Duo (w wr : World) (P R : Nat) (L : SL) (st : Nat) : Prop :=
  Hp wr P L st ∧ (∃ F E A c, E.map Prod.fst = L ∧ RfA wr F R E st A c ∧ ¬ F P ∧ ∀ g, F g → w.heap.size ≤ g) ∧ w.heap.size ≤ P ∧ Below w.heap.size w wr
section
variable {w wr w' : World} {P R st : Nat} {L : SL}
theorem Duo.below (h : Duo w wr P R L st) (hb : Below wr.heap.size wr w') : Duo w w' P R L st := by
  obtain ⟨h1, ⟨F, E, A, c, h2, h3, h4, h5⟩, h6, h7⟩ := h
  exact ⟨h1.below hb h1.lt, ⟨F, E, A, c, h2, h3.below hb, h4, h5⟩, h6, h7.trans (hb.mono h7.size)⟩
theorem Duo.drewN (h : Duo w wr P R L st) (m : Nat) : Duo w (wr.drewN m) P R L st := h.below ⟨rfl, rfl, rfl, Nat.le_refl _, fun _ _ => rfl⟩
theorem Duo.drew (h : Duo w wr P R L st) : Duo w wr.drew P R L st := h.below ⟨rfl, rfl, rfl, Nat.le_refl _, fun _ _ => rfl⟩
/-- a block of bytes turned that is neither's -/
theorem Duo.other (h : Duo w wr P R L st) {g : Nat} (ho : Only g wr w') (hg : w.heap.size ≤ g) (hP : g ≠ P) (hF : ∀ F E A c, RfA wr F R E st A c → ¬ F P → (∀ g, F g → w.heap.size ≤ g) → ∃ F', RfA wr F' R E st A c ∧ ¬ F' P ∧ (∀ g, F' g → w.heap.size ≤ g) ∧ ¬ F' g) : Duo w w' P R L st := by
  obtain ⟨h1, ⟨F, E, A, c, h2, h3, h4, h5⟩, h6, h7⟩ := h
  obtain ⟨F', k1, k2, k3, k4⟩ := hF F E A c h3 h4 h5
  exact ⟨h1.only ho (Ne.symm hP), ⟨F', E, A, c, h2, k1.only ho k4, k2, k3⟩, h6, h7.trans (ho.below h7.size hg)⟩
end
end Go.Proofs.Ytbkdbnkakjogjaa.Mem
/- lapidarylaw05.do. -/
namespace Go.Proofs.Ytbkdbnkakjogjaa.Mem
open Go.RowKit Go.Proofs.Ytbkdbnkakjogjaa.Nums
set_option linter.unusedVariables false
set_option linter.unusedSimpArgs false
set_option maxRecDepth 100000
set_option maxHeartbeats 4000000
theorem sl_own {w : World} {B n c : Nat} {e : TypeId} {A : Option Addr} {xs : List Value} (h : w.ownsRow B e 1 (.slice A n c) n xs) : Sl w w.heap.size 1 A n c xs := by
  obtain ⟨A', c', hv, hs⟩ := Sl.of_own h
  injection hv with h1 _ h3
  subst h1 h3
  exact hs
theorem Hp.drew {w : World} {P : Nat} {L : SL} {st : Nat} (h : Hp w P L st) : Hp w.drew P L st := h
theorem Turn.cell {F : Nat → Prop} {w w' : World} (h : Turn F w w') {p : Addr} {v : Value} (hp : p.block < w.heap.size) (hn : ¬ F p.block) (hc : w.cell? p = some v) : w'.cell? p = some v := by
  have hb := h.block p.block hp hn
  rw [← hc]
  unfold World.cell?
  rw [hb]
theorem Duo.two {w w3 w4 w5 : World} {P R st' c : Nat} {L' : SL} {F F' : Nat → Prop} {E : List Ent} {A : Option Addr} (hbel : Below w.heap.size w w3) (hp4 : Hp w4 P L' st') (ho4 : Only P w3 w4) (hE : E.map Prod.fst = L') (hr5 : RfA w5 F' R E st' A c) (ht5 : Turn F w4 w5) (hFP : ¬ F P) (hFP' : ¬ F' P) (hFB : ∀ g, F g → w.heap.size ≤ g) (hFB' : ∀ g, F' g → w.heap.size ≤ g) (hwP : w.heap.size ≤ P) : Duo w w5 P R L' st' :=
  ⟨hp4.keep (ht5.block P hp4.lt hFP), ⟨F', E, A, c, hE, hr5, hFP', hFB'⟩, hwP, (hbel.trans (ho4.below hbel.size hwP)).trans (ht5.below (Nat.le_trans hbel.size ho4.size) hFB)⟩
section
variable {w wr : World} {P R st n c0 : Nat} {L : SL} {A0 : Option Addr}
theorem do_ins (h : Duo w wr P R L st) (z i : Int) (r a b : Nat) (p s : Int) (x : List UInt8) (hx : x.length = n) (hs : Sl wr wr.heap.size 1 A0 n c0 (u8s x)) (hr : r < 18446744073709551616) (ha : a < 18446744073709551616) (hb : b < 18446744073709551616) (hz : 0 ≤ z ∧ z ≤ 255) (h4 : ¬ z % 8 = 4) (h5 : ¬ z % 8 = 5) (h6 : ¬ z % 8 = 6) (h7 : ¬ z % 8 = 7) :
    Calls Try.prog 17 #[.pointer (some ⟨P, 0, none⟩), .pointer (some ⟨R, 0, none⟩), .agg #[.int .u8 z, .int .i64 i, .int .u64 r, .int .u64 a, .int .u64 b, .int .i64 p, .int .i64 s, .slice A0 n c0]] wr fun e w' => e = .returned (.tuple #[.pointer (some ⟨P, 0, none⟩), .bool true]) ∧ ∃ L' st', Duo w w' P R L' st' := by
  have HD := Lib.hid h
  have HS := Lib.hid hs
  obtain ⟨b0, hb0⟩ : ∃ b0, wr.heap.size = b0 := ⟨_, rfl⟩
  obtain ⟨W1, hW1⟩ : ∃ W1, wr.alloc (.cells #[.int .u8 z, .int .i64 i, .int .u64 r, .int .u64 a, .int .u64 b, .int .i64 p, .int .i64 s, .slice A0 n c0] 35) = W1 := ⟨_, rfl⟩
  have HO1 : Hid (Blk W1 b0 35 #[.int .u8 z, .int .i64 i, .int .u64 r, .int .u64 a, .int .u64 b, .int .i64 p, .int .i64 s, .slice A0 n c0]) := Lib.hid (by rw [← hW1, ← hb0]; exact Blk.new wr _ _)
  have HB1 : Hid (Below b0 wr W1) := Lib.hid (by rw [← hW1, ← hb0]; exact bel_alloc _ _)
  have HW1 := Lib.hid hW1
  have HBZ := Lib.hid hb0
  obtain ⟨d, hd⟩ : ∃ d, x.take 230 = d := ⟨_, rfl⟩
  obtain ⟨m, hm⟩ : ∃ m, min n 230 = m := ⟨_, rfl⟩
  have HDL : Hid (d.length = m) := Lib.hid (by rw [← hd, ← hm, List.length_take, hx]; omega)
  have hm230 : m ≤ 230 := by omega
  have HF : Hid (∀ w0, Sl w0 w0.heap.size 1 A0 n c0 (u8s x) → Calls Try.prog 37 #[.agg #[.int .u64 r, .int .u64 a, .int .u64 b, .int .i64 p, .int .i64 s, .slice A0 n c0]] w0 fun e w' => ∃ v, e = .returned (.agg #[.int .u64 r, .int .u64 a, .int .u64 b, .int .i64 p, .int .i64 s, v]) ∧ OwnB w' w0.heap.size v m (u8s d) ∧ Below w0.heap.size w0 w') := Lib.hid (fun w0 h0 => by have := few_any r a b p s A0 n c0 x w0 h0; rwa [hm, hd] at this)
  clear h hs hW1 hd hm
  go_enter Try.func17, Try.ntmps17
  go_wp2_with fail
  rw [HW1.out]
  refine (HF.out _ (HS.out.on (by rw [HBZ.out]; exact HB1.out))).mono ?_
  rintro e w2 ⟨v, rfl, hov, hb2⟩
  obtain ⟨Au, cu, rfl, _⟩ := Sl.of_own hov
  have hb1s : b0 ≤ W1.heap.size := Nat.le_of_lt (Blk.lt HO1.out)
  obtain ⟨T8, hT8⟩ : ∃ T8, w2.heap.size = T8 := ⟨_, rfl⟩
  obtain ⟨w3, hw3⟩ : ∃ w3, w2.alloc (.cells #[.int .u64 r, .int .u64 a, .int .u64 b, .int .i64 p, .int .i64 s, .slice Au m cu] 33) = w3 := ⟨_, rfl⟩
  have hb3 : Below W1.heap.size W1 w3 := by rw [← hw3]; exact bel_trans hb2 (bel_alloc _ _)
  have HO3 := Lib.hid (Blk.below HO1.out hb3 (Blk.lt HO1.out))
  have HT3 : Hid (Blk w3 T8 33 #[.int .u64 r, .int .u64 a, .int .u64 b, .int .i64 p, .int .i64 s, .slice Au m cu]) := Lib.hid (by rw [← hw3, ← hT8]; exact Blk.new w2 _ _)
  have HU3 : Hid (OwnB w3 b0 (.slice Au m cu) m (u8s d)) := Lib.hid (by rw [← hw3]; exact own_mono (World.ownsRow.alloc hov _) hb1s)
  have HB3 : Hid (Below b0 wr w3) := Lib.hid (HB1.out.trans (hb3.mono hb1s))
  have HD3 := Lib.hid (HD.out.below (by rw [HBZ.out]; exact HB3.out))
  have HW3 : Hid (w2.alloc (.cells #[.int .u64 r, .int .u64 a, .int .u64 b, .int .i64 p, .int .i64 s, .slice Au m cu] 33) = w3 ∧ w2.heap.size = T8 ∧ b0 ≤ T8) := Lib.hid ⟨hw3, hT8, by rw [← hT8]; exact Nat.le_trans hb1s hb2.size⟩
  clear hov hb2 hb1s hT8 hw3 hb3
  go_upto_region 2 with fail
  rw [HW3.out.1, HW3.out.2.1]
  have o0 := HO3.out.cell 0
  have o1 := HO3.out.cell 1
  obtain ⟨hHp, ⟨F, E, A, c, hE, hR, hFP, hFB⟩, hwP, hbel⟩ := HD.out
  have hbP : b0 ≠ P := by have := hHp.lt; have := HBZ.out; omega
  have hFb : ¬ F b0 := fun hg => by have := hR.lt b0 hg; have := HBZ.out; omega
  have hTb : b0 ≤ T8 := HW3.out.2.2
  have hTP : T8 ≠ P := by have := hHp.lt; have := HBZ.out; omega
  have hFT : ¬ F T8 := fun hg => by have := hR.lt T8 hg; have := HBZ.out; omega
  have hlb := Blk.lt HO3.out
  have hlT := Blk.lt HT3.out
  have hbelw : Below wr.heap.size wr w3 → Below w.heap.size w w3 := fun k => hbel.trans (k.mono hbel.size)
  have HFL : Hid (∀ g, F g → g < b0) := Lib.hid (fun g hg => by have := hR.lt g hg; have := HBZ.out; omega)
  have HBW := Lib.hid (hbelw (by rw [HBZ.out]; exact HB3.out))
  have HH := Lib.hid (And.intro (hHp.below (by rw [HBZ.out]; exact HB3.out) hHp.lt) (And.intro (hR.below (by rw [HBZ.out]; exact HB3.out)) (And.intro hFP (And.intro hFB (And.intro hwP hbel)))))
  have o2 := HO3.out.cell 2
  have o3 := HO3.out.cell 3
  have o4 := HO3.out.cell 4
  have o5 := HO3.out.cell 5
  have o6 := HO3.out.cell 6
  have o7 := HO3.out.cell 7
  have hsm := hHp.small
  obtain ⟨y, hy⟩ : ∃ y, insR L st r a b p s d = y := ⟨_, rfl⟩
  obtain ⟨qr, xr, L', st'⟩ := y
  have HCP : Hid (∀ w0 A1 c1, Hp w0 P L st → Sl w0 w0.heap.size 1 A1 m c1 (u8s d) → Calls Try.prog 34 #[.pointer (some ⟨P, 0, none⟩), .agg #[.int .u64 r, .int .u64 a, .int .u64 b, .int .i64 p, .int .i64 s, .slice A1 m c1]] w0 fun e w' => e = .returned (.tuple #[.int .i64 qr, .int .i64 xr]) ∧ Hp w' P L' st' ∧ Only P w0 w') := Lib.hid (fun w0 A1 c1 h0 h1 => by have := insP h0 r a b p s d HDL.out h1; rwa [hy] at this)
  have HCR : Hid (∀ w0 A1 c1, RfA w0 F R E st A c → Sl w0 w0.heap.size 1 A1 m c1 (u8s d) → Calls Try.prog 64 #[.pointer (some ⟨R, 0, none⟩), .agg #[.int .u64 r, .int .u64 a, .int .u64 b, .int .i64 p, .int .i64 s, .slice A1 m c1]] w0 fun e w' => e = .returned (.tuple #[.int .i64 qr, .int .i64 xr]) ∧ (∃ E' A' c', E'.map Prod.fst = L' ∧ RfA w' (fun g => F g ∨ (w0.heap.size ≤ g ∧ g < w'.heap.size)) R E' st' A' c') ∧ Turn F w0 w') := Lib.hid (fun w0 A1 c1 h0 h1 => by have := insF h0 hE hsm.1 hsm.2.1 hsm.2.2 r a b p s d HDL.out h1; rwa [hy] at this)
  have e4 : (z % 8 == 4) = false := beq_eq_false_iff_ne.2 h4
  have e5 : (z % 8 == 5) = false := beq_eq_false_iff_ne.2 h5
  have e6 : (z % 8 == 6) = false := beq_eq_false_iff_ne.2 h6
  have e7 : (z % 8 == 7) = false := beq_eq_false_iff_ne.2 h7
  clear hy hHp hR hFP hFB hwP hbel hE hsm
  go_wp2_with fail
  clear o0 o1 o2 o3 o4 o5 o6 o7
  refine (HF.out _ (HS.out.on (by rw [HBZ.out]; exact HB3.out))).mono ?_
  rintro e w4 ⟨v, rfl, hov, hb4⟩
  obtain ⟨Am, cm, rfl, _⟩ := Sl.of_own hov
  obtain ⟨TM, hTM⟩ : ∃ TM, w4.heap.size = TM := ⟨_, rfl⟩
  obtain ⟨w5, hw5⟩ : ∃ w5, w4.alloc (.cells #[.int .u64 r, .int .u64 a, .int .u64 b, .int .i64 p, .int .i64 s, .slice Am m cm] 33) = w5 := ⟨_, rfl⟩
  have hb5 : Below w3.heap.size w3 w5 := by rw [← hw5]; exact bel_trans hb4 (bel_alloc _ _)
  have HM5 : Hid (Blk w5 TM 33 #[.int .u64 r, .int .u64 a, .int .u64 b, .int .i64 p, .int .i64 s, .slice Am m cm]) := Lib.hid (by rw [← hw5, ← hTM]; exact Blk.new w4 _ _)
  have HT5 := Lib.hid (Blk.below HT3.out hb5 hlT)
  have HN5 : Hid (w5.ownsRow w3.heap.size 5 1 (.slice Am m cm) m (u8s d)) := Lib.hid (by rw [← hw5]; exact World.ownsRow.alloc hov _)
  have HU5 : Hid (OwnB w5 b0 (.slice Au m cu) m (u8s d)) := Lib.hid (own_keep HU3.out (fun k hk => hb5.block k (HU3.out.lt k hk).2))
  have HUL : Hid (∀ k, (Value.slice Au m cu).ownBlock = some k → k < w3.heap.size) := Lib.hid (fun k hk => (HU3.out.lt k hk).2)
  have hP5 : Hp w5 P L st := HH.out.1.below hb5 HH.out.1.lt
  have hR5 : RfA w5 F R E st A c := HH.out.2.1.below hb5
  have hlM : TM < w5.heap.size := Blk.lt HM5.out
  have hTMb : w3.heap.size ≤ TM := by rw [← hTM]; exact hb4.size
  have hMP : TM ≠ P := by have := HH.out.1.lt; omega
  have hFM : ¬ F TM := fun hg => by have := HH.out.2.1.lt TM hg; omega
  have HW5 := Lib.hid hw5
  have hTM2 := Lib.hid hTM
  clear hov hb4 hw5 hTM
  go_upto_region 14 with fail
  rw [HW5.out, hTM2.out]
  have x0 := HM5.out.cell 0
  have x1 := HM5.out.cell 1
  have x2 := HM5.out.cell 2
  have x3 := HM5.out.cell 3
  have x4 := HM5.out.cell 4
  have x5 := HM5.out.cell 5
  go_wp2_with fail
  clear x0 x1 x2 x3 x4 x5
  refine (HCP.out _ Am cm hP5 (sl_own HN5.out)).mono ?_
  rintro e w6 ⟨rfl, hp6, ho6⟩
  have HT6 := Lib.hid (ho6.blk HT5.out hTP)
  have HM6 := Lib.hid (ho6.blk HM5.out hMP)
  have hPown : ∀ (B : Nat) (u : Value), w5.ownsRow B 5 1 u m (u8s d) → w6.ownsRow B 5 1 u m (u8s d) := fun B u hu => own_keep hu fun k hk => ho6.block k (hu.lt k hk).2 (fun e => by obtain ⟨X, hpx, _⟩ := hP5; exact own_blk_ne hu hpx.1 (by decide) (by rw [hk, e]))
  have HN6 := Lib.hid (hPown _ _ HN5.out)
  have HU6 := Lib.hid (hPown _ _ HU5.out)
  have hR6 := hR5.only ho6 HH.out.2.2.1
  have x0 := HT6.out.cell 0
  have x1 := HT6.out.cell 1
  have x2 := HT6.out.cell 2
  have x3 := HT6.out.cell 3
  have x4 := HT6.out.cell 4
  have x5 := HT6.out.cell 5
  go_wp2_with fail
  clear x0 x1 x2 x3 x4 x5
  refine (HCR.out _ Au cu hR6 (sl_own HU6.out)).mono ?_
  rintro e w7 ⟨rfl, ⟨E7, A7, c7, hE7, hr7⟩, ht7⟩
  have HT7 : Hid (Blk w7 T8 33 #[.int .u64 r, .int .u64 a, .int .u64 b, .int .i64 p, .int .i64 s, .slice Au m cu]) := Lib.hid ((ht7.block T8 (Blk.lt HT6.out) hFT).trans HT6.out)
  have HM7 : Hid (Blk w7 TM 33 #[.int .u64 r, .int .u64 a, .int .u64 b, .int .i64 p, .int .i64 s, .slice Am m cm]) := Lib.hid ((ht7.block TM (Blk.lt HM6.out) hFM).trans HM6.out)
  have hs56 : w5.heap.size ≤ w6.heap.size := ho6.size
  have hs35 : w3.heap.size ≤ w5.heap.size := hb5.size
  have hFlt : ∀ g, F g → g < b0 := by
    intro g hg
    exact HFL.out g hg
  have HN7 : Hid (w7.ownsRow w3.heap.size 5 1 (.slice Am m cm) m (u8s d)) := Lib.hid (own_keep HN6.out fun k hk => ht7.block k (HN6.out.lt k hk).2 (fun hg => by have h1 := (HN6.out.lt k hk).1; have h2 := hFlt k hg; have := HB3.out.size; have := HBZ.out; omega))
  have HU7 : Hid (w7.ownsRow b0 5 1 (.slice Au m cu) m (u8s d)) := Lib.hid (own_keep HU6.out fun k hk => ht7.block k (HU6.out.lt k hk).2 (fun hg => by have h1 := (HU6.out.lt k hk).1; have h2 := hFlt k hg; omega))
  have HD7 : Hid (Duo w w7 P R L' st') := Lib.hid (Duo.two (w3 := w5) (HBW.out.trans (hb5.mono (by have := HBW.out.size; omega))) hp6 ho6 hE7 hr7 ht7 HH.out.2.2.1 (fun hg => hg.elim HH.out.2.2.1 (fun k => by have := hp6.lt; omega)) HH.out.2.2.2.1 (fun g hg => hg.elim (HH.out.2.2.2.1 g) (fun k => by have := HBW.out.size; omega)) HH.out.2.2.2.2.1)
  have HFM7 : Hid (∀ k, (Value.slice Am m cm).ownBlock = some k → w.heap.size ≤ k ∧ k ≠ P ∧ ¬ (F k ∨ (w6.heap.size ≤ k ∧ k < w7.heap.size))) := Lib.hid (fun k hk => by
    have h1 := (HN6.out.lt k hk)
    have h2 := (HN5.out.lt k hk)
    have := HBW.out.size
    have := HH.out.1.lt
    refine ⟨by omega, by omega, fun hg => ?_⟩
    rcases hg with hg | hg
    · have := hFlt k hg; have := HB3.out.size; have := HBZ.out; omega
    · omega)
  have HR7 := Lib.hid hr7
  have HPLT : Hid (P < w6.heap.size) := Lib.hid hp6.lt
  have HSZ : Hid (w3.heap.size ≤ w6.heap.size) := Lib.hid (Nat.le_trans hs35 hs56)
  have HP7 : Hid (Hp w7 P L' st') := Lib.hid HD7.out.1
  have HE7 := Lib.hid hE7
  clear hr7 hE7 ht7 hp6 ho6 hR6 hPown hP5 hR5 hs56 hs35 hFlt
  have x0 := HM7.out.cell 0
  have x1 := HM7.out.cell 1
  have x2 := HM7.out.cell 2
  have x3 := HM7.out.cell 3
  have x4 := HM7.out.cell 4
  have x5 := HM7.out.cell 5
  have y0 := HT7.out.cell 0
  have y1 := HT7.out.cell 1
  have y2 := HT7.out.cell 2
  have y3 := HT7.out.cell 3
  have y4 := HT7.out.cell 4
  have y5 := HT7.out.cell 5
  go_wp2_with fail
  clear x0 x1 x2 x3 x4 x5 y0 y1 y2 y3 y4 y5
  refine (samet_yes r a b p s Am Au m cm m cu d w7 (sl_own HN7.out) (sl_own HU7.out)).mono ?_
  rintro e w8 ⟨rfl, hb8⟩
  have HM8 := Lib.hid (Blk.below HM7.out hb8 (Blk.lt HM7.out))
  have HN8 : Hid (w8.ownsRow w3.heap.size 5 1 (.slice Am m cm) m (u8s d)) := Lib.hid (own_keep HN7.out fun k hk => hb8.block k (HN7.out.lt k hk).2)
  have HR8 := Lib.hid (HR7.out.below hb8)
  have HP8 := Lib.hid (HP7.out.below hb8 HP7.out.lt)
  have HB8 : Hid (Below w.heap.size w w8) := Lib.hid (HD7.out.2.2.2.trans (hb8.mono HD7.out.2.2.2.size))
  have HFIN : Hid (∀ (wl : World) (g : Nat), (Value.slice Am m cm).ownBlock = some g → Only g w8 wl → Duo w wl P R L' st') := Lib.hid (fun wl g hg ho => by
    obtain ⟨q1, q2, q3⟩ := HFM7.out g hg
    exact ⟨HP8.out.only ho (Ne.symm q2), ⟨_, E7, A7, c7, HE7.out, HR8.out.only ho q3, (fun hh => hh.elim HH.out.2.2.1 (fun k => by have := HPLT.out; omega)), (fun k hk => hk.elim (HH.out.2.2.2.1 k) (fun k => by have := HBW.out.size; have := HSZ.out; omega))⟩, HH.out.2.2.2.2.1, HB8.out.trans (ho.below HB8.out.size q1)⟩)
  have HFIN0 : Hid (Duo w w8 P R L' st') := Lib.hid (HD7.out.below hb8)
  clear hb8
  have x5 := HM8.out.cell 5
  go_wp2_with fail
  obtain ⟨G, hG⟩ : ∃ G, 0 < m → (Am = some ⟨G, 0, none⟩ ∧ m ≤ cm ∧ (Value.slice Am m cm).ownBlock = some G ∧ ∃ cur, Blk w8 G 5 cur ∧ ∀ j y, j < m → (u8s d)[j]? = some y → cur[j]? = some y) := by
    rcases HN8.out.2 with ⟨hv, hm0⟩ | ⟨g, cap, cur, hv, hbg, hg, hnc, hcm, hcs, htake⟩
    · exact ⟨0, fun h => absurd h (by omega)⟩
    · refine ⟨g, fun h => ?_⟩
      injection hv with q1 _ q3
      subst q1 q3
      refine ⟨rfl, hnc, rfl, cur, hg, fun j y hj hy => ?_⟩
      rw [← htake, List.getElem?_take, if_pos (by omega), Array.getElem?_toList] at hy
      exact hy
  have HG := Lib.hid hG
  clear hG x5
  go_loopw [106] (fun i wl => ∃ k : Nat, k ≤ m ∧ i = .int .i64 k ∧ Only G w8 wl ∧ (m = 0 → wl = w8) ∧ (0 < m → ∃ cur, Blk wl G 5 cur ∧ ∀ j y, k ≤ j → j < m → (u8s d)[j]? = some y → cur[j]? = some y)) (fun i _ => m - (intOf i).toNat)
  case atStart => exact ⟨0, by omega, rfl, Only.refl _ _, fun _ => rfl, fun h => by obtain ⟨_, _, _, cur, h1, h2⟩ := HG.out h; exact ⟨cur, h1, fun j y _ hj hy => h2 j y hj hy⟩⟩
  case round =>
    obtain ⟨k, hk, rfl, ho, hz0, hcur⟩ := hrel
    have HO := Lib.hid ho
    have HZ0 := Lib.hid hz0
    have HCUR := Lib.hid hcur
    clear ho hz0 hcur
    by_cases hlt : k < m
    · have hlt' : (k : Int) < m := by omega
      have hm0 : 0 < m := by omega
      obtain ⟨hA, hmc, hown, _, hb0G, _⟩ := HG.out hm0
      obtain ⟨cur, hbl, hcells⟩ := HCUR.out hm0
      obtain ⟨y, hy⟩ : ∃ y, d[k]? = some y := ⟨_, List.getElem?_eq_getElem (by rw [HDL.out]; exact hlt)⟩
      have hck := hcells k _ (Nat.le_refl _) hlt (u8s_get hy)
      have y0 := hbl.cell k
      rw [hck] at y0
      have z0 := hbl.frozen k
      have hne := Blk.ne_ HM8.out hb0G (by decide)
      have HML := Lib.hid (HO.out.blk HM8.out hne)
      have x5 := HML.out.cell 5
      have hk0 : (0 : Int) ≤ k := by omega
      have HS2 : Hid (∀ v, Blk (wr.setCell ⟨G, k, none⟩ v) G 5 (cur.setIfInBounds k v)) := Lib.hid (fun v => Blk.set_ hbl k v)
      have HCC := Lib.hid hcells
      subst hA
      clear hck hy hbl hcells
      go_wp2_with fail
      go_roundw
      case rel =>
        refine ⟨k + 1, by omega, by go_num, HO.out.set_ _ _, fun h => absurd h (by omega), fun _ => ⟨_, HS2.out _, fun j y hj hjm hy => ?_⟩⟩
        rw [Array.getElem?_setIfInBounds, if_neg (by omega)]
        exact HCC.out j y (by omega) hjm hy
      case measure => simp [intOf]; omega
    · obtain rfl : k = m := by omega
      go_wp2_with fail
      go_ret2
      refine ⟨rfl, L', st', ?_⟩
      by_cases hm0 : k = 0
      · rw [HZ0.out hm0]; exact HFIN0.out
      · obtain ⟨_, _, hown, _⟩ := HG.out (by omega)
        exact HFIN.out _ G hown HO.out
theorem do_stamp (h : Duo w wr P R L st) (z i : Int) (r a b : Nat) (p s : Int) (x : List UInt8) (hx : x.length = n) (hs : Sl wr wr.heap.size 1 A0 n c0 (u8s x)) (hr : r < 18446744073709551616) (ha : a < 18446744073709551616) (hb : b < 18446744073709551616) (hz : 0 ≤ z ∧ z ≤ 255) (h4 : Int.tmod z 8 = 4) :
    Calls Try.prog 17 #[.pointer (some ⟨P, 0, none⟩), .pointer (some ⟨R, 0, none⟩), .agg #[.int .u8 z, .int .i64 i, .int .u64 r, .int .u64 a, .int .u64 b, .int .i64 p, .int .i64 s, .slice A0 n c0]] wr fun e w' => e = .returned (.tuple #[.pointer (some ⟨P, 0, none⟩), .bool true]) ∧ ∃ L' st', Duo w w' P R L' st' := by
  have HD := Lib.hid h
  have HS := Lib.hid hs
  obtain ⟨b0, hb0⟩ : ∃ b0, wr.heap.size = b0 := ⟨_, rfl⟩
  obtain ⟨W1, hW1⟩ : ∃ W1, wr.alloc (.cells #[.int .u8 z, .int .i64 i, .int .u64 r, .int .u64 a, .int .u64 b, .int .i64 p, .int .i64 s, .slice A0 n c0] 35) = W1 := ⟨_, rfl⟩
  have HO1 : Hid (Blk W1 b0 35 #[.int .u8 z, .int .i64 i, .int .u64 r, .int .u64 a, .int .u64 b, .int .i64 p, .int .i64 s, .slice A0 n c0]) := Lib.hid (by rw [← hW1, ← hb0]; exact Blk.new wr _ _)
  have HB1 : Hid (Below b0 wr W1) := Lib.hid (by rw [← hW1, ← hb0]; exact bel_alloc _ _)
  have HW1 := Lib.hid hW1
  have HBZ := Lib.hid hb0
  obtain ⟨d, hd⟩ : ∃ d, x.take 230 = d := ⟨_, rfl⟩
  obtain ⟨m, hm⟩ : ∃ m, min n 230 = m := ⟨_, rfl⟩
  have HDL : Hid (d.length = m) := Lib.hid (by rw [← hd, ← hm, List.length_take, hx]; omega)
  have hm230 : m ≤ 230 := by omega
  have HF : Hid (∀ w0, Sl w0 w0.heap.size 1 A0 n c0 (u8s x) → Calls Try.prog 37 #[.agg #[.int .u64 r, .int .u64 a, .int .u64 b, .int .i64 p, .int .i64 s, .slice A0 n c0]] w0 fun e w' => ∃ v, e = .returned (.agg #[.int .u64 r, .int .u64 a, .int .u64 b, .int .i64 p, .int .i64 s, v]) ∧ OwnB w' w0.heap.size v m (u8s d) ∧ Below w0.heap.size w0 w') := Lib.hid (fun w0 h0 => by have := few_any r a b p s A0 n c0 x w0 h0; rwa [hm, hd] at this)
  clear h hs hW1 hd hm
  go_enter Try.func17, Try.ntmps17
  go_wp2_with fail
  rw [HW1.out]
  refine (HF.out _ (HS.out.on (by rw [HBZ.out]; exact HB1.out))).mono ?_
  rintro e w2 ⟨v, rfl, hov, hb2⟩
  obtain ⟨Au, cu, rfl, _⟩ := Sl.of_own hov
  have hb1s : b0 ≤ W1.heap.size := Nat.le_of_lt (Blk.lt HO1.out)
  obtain ⟨T8, hT8⟩ : ∃ T8, w2.heap.size = T8 := ⟨_, rfl⟩
  obtain ⟨w3, hw3⟩ : ∃ w3, w2.alloc (.cells #[.int .u64 r, .int .u64 a, .int .u64 b, .int .i64 p, .int .i64 s, .slice Au m cu] 33) = w3 := ⟨_, rfl⟩
  have hb3 : Below W1.heap.size W1 w3 := by rw [← hw3]; exact bel_trans hb2 (bel_alloc _ _)
  have HO3 := Lib.hid (Blk.below HO1.out hb3 (Blk.lt HO1.out))
  have HT3 : Hid (Blk w3 T8 33 #[.int .u64 r, .int .u64 a, .int .u64 b, .int .i64 p, .int .i64 s, .slice Au m cu]) := Lib.hid (by rw [← hw3, ← hT8]; exact Blk.new w2 _ _)
  have HU3 : Hid (OwnB w3 b0 (.slice Au m cu) m (u8s d)) := Lib.hid (by rw [← hw3]; exact own_mono (World.ownsRow.alloc hov _) hb1s)
  have HB3 : Hid (Below b0 wr w3) := Lib.hid (HB1.out.trans (hb3.mono hb1s))
  have HD3 := Lib.hid (HD.out.below (by rw [HBZ.out]; exact HB3.out))
  have HW3 : Hid (w2.alloc (.cells #[.int .u64 r, .int .u64 a, .int .u64 b, .int .i64 p, .int .i64 s, .slice Au m cu] 33) = w3 ∧ w2.heap.size = T8 ∧ b0 ≤ T8) := Lib.hid ⟨hw3, hT8, by rw [← hT8]; exact Nat.le_trans hb1s hb2.size⟩
  clear hov hb2 hb1s hT8 hw3 hb3
  go_upto_region 2 with fail
  rw [HW3.out.1, HW3.out.2.1]
  have o0 := HO3.out.cell 0
  have o1 := HO3.out.cell 1
  obtain ⟨hHp, ⟨F, E, A, c, hE, hR, hFP, hFB⟩, hwP, hbel⟩ := HD.out
  have hbP : b0 ≠ P := by have := hHp.lt; have := HBZ.out; omega
  have hFb : ¬ F b0 := fun hg => by have := hR.lt b0 hg; have := HBZ.out; omega
  have hTb : b0 ≤ T8 := HW3.out.2.2
  have hTP : T8 ≠ P := by have := hHp.lt; have := HBZ.out; omega
  have hFT : ¬ F T8 := fun hg => by have := hR.lt T8 hg; have := HBZ.out; omega
  have hlb := Blk.lt HO3.out
  have hlT := Blk.lt HT3.out
  have hbelw : Below wr.heap.size wr w3 → Below w.heap.size w w3 := fun k => hbel.trans (k.mono hbel.size)
  have HFL : Hid (∀ g, F g → g < b0) := Lib.hid (fun g hg => by have := hR.lt g hg; have := HBZ.out; omega)
  have HBW := Lib.hid (hbelw (by rw [HBZ.out]; exact HB3.out))
  have HH := Lib.hid (And.intro (hHp.below (by rw [HBZ.out]; exact HB3.out) hHp.lt) (And.intro (hR.below (by rw [HBZ.out]; exact HB3.out)) (And.intro hFP (And.intro hFB (And.intro hwP hbel)))))
  obtain ⟨y, hy⟩ : ∃ y, stampR L i b p s = y := ⟨_, rfl⟩
  obtain ⟨xr, L'⟩ := y
  have HCP : Hid (∀ w0, Hp w0 P L st → Calls Try.prog 38 #[.pointer (some ⟨P, 0, none⟩), .int .i64 i, .int .u64 b, .agg #[.int .i64 p, .int .i64 s]] w0 fun e w' => e = .returned (.int .i64 xr) ∧ Hp w' P L' st ∧ Only P w0 w') := Lib.hid (fun w0 h0 => by have := stampP h0 i b p s; rwa [hy] at this)
  have HCR : Hid (∀ w0, RfA w0 F R E st A c → Calls Try.prog 62 #[.pointer (some ⟨R, 0, none⟩), .int .i64 i, .int .u64 b, .agg #[.int .i64 p, .int .i64 s]] w0 fun e w' => e = .returned (.int .i64 xr) ∧ (∃ E', E'.map Prod.fst = L' ∧ RfA w' F R E' st A c) ∧ Turn F w0 w') := Lib.hid (fun w0 h0 => by have := stampF h0 hE i b p s; rwa [hy] at this)
  clear hy hHp hR hFP hFB hwP hbel hE
  go_wp2_with fail
  have t2 := HT3.out.cell 2
  have t3 := HT3.out.cell 3
  have t4 := HT3.out.cell 4
  go_region_held3 (fun w' => w'.cell? ⟨b0, 1, none⟩ = some (.int .i64 i) ∧ w'.cell? ⟨T8, 2, none⟩ = some (.int .u64 b) ∧ w'.cell? ⟨T8, 3, none⟩ = some (.int .i64 p) ∧ w'.cell? ⟨T8, 4, none⟩ = some (.int .i64 s)) (first | go_keep | exact ⟨ho4.cell (p := ⟨b0, 1, none⟩) hlb hbP (HO3.out.cell 1), ho4.cell (p := ⟨T8, 2, none⟩) hlT hTP (HT3.out.cell 2), ho4.cell (p := ⟨T8, 3, none⟩) hlT hTP (HT3.out.cell 3), ho4.cell (p := ⟨T8, 4, none⟩) hlT hTP (HT3.out.cell 4)⟩ | exact ⟨ht5.cell (p := ⟨b0, 1, none⟩) (Nat.lt_of_lt_of_le hlb ho4.size) hFb (ho4.cell (p := ⟨b0, 1, none⟩) hlb hbP (HO3.out.cell 1)), ht5.cell (p := ⟨T8, 2, none⟩) (Nat.lt_of_lt_of_le hlT ho4.size) hFT (ho4.cell (p := ⟨T8, 2, none⟩) hlT hTP (HT3.out.cell 2)), ht5.cell (p := ⟨T8, 3, none⟩) (Nat.lt_of_lt_of_le hlT ho4.size) hFT (ho4.cell (p := ⟨T8, 3, none⟩) hlT hTP (HT3.out.cell 3)), ht5.cell (p := ⟨T8, 4, none⟩) (Nat.lt_of_lt_of_le hlT ho4.size) hFT (ho4.cell (p := ⟨T8, 4, none⟩) hlT hTP (HT3.out.cell 4))⟩)
    (first
      | (go_at_call 38; refine (HCP.out _ HH.out.1.drew).mono ?_; rintro e w4 ⟨rfl, hp4, ho4⟩)
      | (go_at_call 62; refine (HCR.out _ ((HH.out.2.1).drew.only ho4 HH.out.2.2.1)).mono ?_; rintro e w5 ⟨rfl, ⟨E5, hE5, hr5⟩, ht5⟩))
  go_wp2_with fail
  go_ret2
  exact ⟨rfl, L', st, Duo.two (hbelw (by rw [HBZ.out]; exact HB3.out)) hp4 ((Only.refl P w3).drew.trans ho4) hE5 hr5 ht5 HH.out.2.2.1 HH.out.2.2.1 HH.out.2.2.2.1 HH.out.2.2.2.1 HH.out.2.2.2.2.1⟩
theorem do_free5 (h : Duo w wr P R L st) (z i : Int) (r a b : Nat) (p s : Int) (x : List UInt8) (hx : x.length = n) (hs : Sl wr wr.heap.size 1 A0 n c0 (u8s x)) (hr : r < 18446744073709551616) (ha : a < 18446744073709551616) (hb : b < 18446744073709551616) (hz : 0 ≤ z ∧ z ≤ 255) (h4 : Int.tmod z 8 = 5) :
    Calls Try.prog 17 #[.pointer (some ⟨P, 0, none⟩), .pointer (some ⟨R, 0, none⟩), .agg #[.int .u8 z, .int .i64 i, .int .u64 r, .int .u64 a, .int .u64 b, .int .i64 p, .int .i64 s, .slice A0 n c0]] wr fun e w' => e = .returned (.tuple #[.pointer (some ⟨P, 0, none⟩), .bool true]) ∧ ∃ L' st', Duo w w' P R L' st' := by
  have HD := Lib.hid h
  have HS := Lib.hid hs
  obtain ⟨b0, hb0⟩ : ∃ b0, wr.heap.size = b0 := ⟨_, rfl⟩
  obtain ⟨W1, hW1⟩ : ∃ W1, wr.alloc (.cells #[.int .u8 z, .int .i64 i, .int .u64 r, .int .u64 a, .int .u64 b, .int .i64 p, .int .i64 s, .slice A0 n c0] 35) = W1 := ⟨_, rfl⟩
  have HO1 : Hid (Blk W1 b0 35 #[.int .u8 z, .int .i64 i, .int .u64 r, .int .u64 a, .int .u64 b, .int .i64 p, .int .i64 s, .slice A0 n c0]) := Lib.hid (by rw [← hW1, ← hb0]; exact Blk.new wr _ _)
  have HB1 : Hid (Below b0 wr W1) := Lib.hid (by rw [← hW1, ← hb0]; exact bel_alloc _ _)
  have HW1 := Lib.hid hW1
  have HBZ := Lib.hid hb0
  obtain ⟨d, hd⟩ : ∃ d, x.take 230 = d := ⟨_, rfl⟩
  obtain ⟨m, hm⟩ : ∃ m, min n 230 = m := ⟨_, rfl⟩
  have HDL : Hid (d.length = m) := Lib.hid (by rw [← hd, ← hm, List.length_take, hx]; omega)
  have hm230 : m ≤ 230 := by omega
  have HF : Hid (∀ w0, Sl w0 w0.heap.size 1 A0 n c0 (u8s x) → Calls Try.prog 37 #[.agg #[.int .u64 r, .int .u64 a, .int .u64 b, .int .i64 p, .int .i64 s, .slice A0 n c0]] w0 fun e w' => ∃ v, e = .returned (.agg #[.int .u64 r, .int .u64 a, .int .u64 b, .int .i64 p, .int .i64 s, v]) ∧ OwnB w' w0.heap.size v m (u8s d) ∧ Below w0.heap.size w0 w') := Lib.hid (fun w0 h0 => by have := few_any r a b p s A0 n c0 x w0 h0; rwa [hm, hd] at this)
  clear h hs hW1 hd hm
  go_enter Try.func17, Try.ntmps17
  go_wp2_with fail
  rw [HW1.out]
  refine (HF.out _ (HS.out.on (by rw [HBZ.out]; exact HB1.out))).mono ?_
  rintro e w2 ⟨v, rfl, hov, hb2⟩
  obtain ⟨Au, cu, rfl, _⟩ := Sl.of_own hov
  have hb1s : b0 ≤ W1.heap.size := Nat.le_of_lt (Blk.lt HO1.out)
  obtain ⟨T8, hT8⟩ : ∃ T8, w2.heap.size = T8 := ⟨_, rfl⟩
  obtain ⟨w3, hw3⟩ : ∃ w3, w2.alloc (.cells #[.int .u64 r, .int .u64 a, .int .u64 b, .int .i64 p, .int .i64 s, .slice Au m cu] 33) = w3 := ⟨_, rfl⟩
  have hb3 : Below W1.heap.size W1 w3 := by rw [← hw3]; exact bel_trans hb2 (bel_alloc _ _)
  have HO3 := Lib.hid (Blk.below HO1.out hb3 (Blk.lt HO1.out))
  have HT3 : Hid (Blk w3 T8 33 #[.int .u64 r, .int .u64 a, .int .u64 b, .int .i64 p, .int .i64 s, .slice Au m cu]) := Lib.hid (by rw [← hw3, ← hT8]; exact Blk.new w2 _ _)
  have HU3 : Hid (OwnB w3 b0 (.slice Au m cu) m (u8s d)) := Lib.hid (by rw [← hw3]; exact own_mono (World.ownsRow.alloc hov _) hb1s)
  have HB3 : Hid (Below b0 wr w3) := Lib.hid (HB1.out.trans (hb3.mono hb1s))
  have HD3 := Lib.hid (HD.out.below (by rw [HBZ.out]; exact HB3.out))
  have HW3 : Hid (w2.alloc (.cells #[.int .u64 r, .int .u64 a, .int .u64 b, .int .i64 p, .int .i64 s, .slice Au m cu] 33) = w3 ∧ w2.heap.size = T8 ∧ b0 ≤ T8) := Lib.hid ⟨hw3, hT8, by rw [← hT8]; exact Nat.le_trans hb1s hb2.size⟩
  clear hov hb2 hb1s hT8 hw3 hb3
  go_upto_region 2 with fail
  rw [HW3.out.1, HW3.out.2.1]
  have o0 := HO3.out.cell 0
  have o1 := HO3.out.cell 1
  obtain ⟨hHp, ⟨F, E, A, c, hE, hR, hFP, hFB⟩, hwP, hbel⟩ := HD.out
  have hbP : b0 ≠ P := by have := hHp.lt; have := HBZ.out; omega
  have hFb : ¬ F b0 := fun hg => by have := hR.lt b0 hg; have := HBZ.out; omega
  have hTb : b0 ≤ T8 := HW3.out.2.2
  have hTP : T8 ≠ P := by have := hHp.lt; have := HBZ.out; omega
  have hFT : ¬ F T8 := fun hg => by have := hR.lt T8 hg; have := HBZ.out; omega
  have hlb := Blk.lt HO3.out
  have hlT := Blk.lt HT3.out
  have hbelw : Below wr.heap.size wr w3 → Below w.heap.size w w3 := fun k => hbel.trans (k.mono hbel.size)
  have HFL : Hid (∀ g, F g → g < b0) := Lib.hid (fun g hg => by have := hR.lt g hg; have := HBZ.out; omega)
  have HBW := Lib.hid (hbelw (by rw [HBZ.out]; exact HB3.out))
  have HH := Lib.hid (And.intro (hHp.below (by rw [HBZ.out]; exact HB3.out) hHp.lt) (And.intro (hR.below (by rw [HBZ.out]; exact HB3.out)) (And.intro hFP (And.intro hFB (And.intro hwP hbel)))))
  obtain ⟨xr, L', hft⟩ := free_ex L i
  have HCP : Hid (∀ w0, Hp w0 P L st → Calls Try.prog 35 #[.pointer (some ⟨P, 0, none⟩), .int .i64 i] w0 fun e w' => e = .returned (.int .i64 xr) ∧ Hp w' P L' st ∧ Only P w0 w') := Lib.hid (fun w0 h0 => freeP h0 i xr L' hft)
  have HCR : Hid (∀ w0, RfA w0 F R E st A c → Calls Try.prog 63 #[.pointer (some ⟨R, 0, none⟩), .int .i64 i] w0 fun e w' => e = .returned (.int .i64 xr) ∧ (∃ E', E'.map Prod.fst = L' ∧ RfA w' F R E' st A c) ∧ Turn F w0 w') := Lib.hid (fun w0 h0 => freeF h0 hE i xr L' hft)
  clear hft hHp hR hFP hFB hwP hbel hE
  go_wp2_with fail
  go_region_held3 (fun w' => w'.cell? ⟨b0, 1, none⟩ = some (.int .i64 i)) (first | go_keep | exact ho4.cell (p := ⟨b0, 1, none⟩) hlb hbP (HO3.out.cell 1) | exact ht5.cell (p := ⟨b0, 1, none⟩) (Nat.lt_of_lt_of_le hlb ho4.size) hFb (ho4.cell (p := ⟨b0, 1, none⟩) hlb hbP (HO3.out.cell 1)))
    (first
      | (go_at_call 35; refine (HCP.out _ HH.out.1.drew).mono ?_; rintro e w4 ⟨rfl, hp4, ho4⟩)
      | (go_at_call 63; refine (HCR.out _ ((HH.out.2.1).drew.only ho4 HH.out.2.2.1)).mono ?_; rintro e w5 ⟨rfl, ⟨E5, hE5, hr5⟩, ht5⟩))
  go_wp2_with fail
  go_ret2
  exact ⟨rfl, L', st, Duo.two (hbelw (by rw [HBZ.out]; exact HB3.out)) hp4 ((Only.refl P w3).drew.trans ho4) hE5 hr5 ht5 HH.out.2.2.1 HH.out.2.2.1 HH.out.2.2.2.1 HH.out.2.2.2.1 HH.out.2.2.2.2.1⟩
theorem do_free6 (h : Duo w wr P R L st) (z i : Int) (r a b : Nat) (p s : Int) (x : List UInt8) (hx : x.length = n) (hs : Sl wr wr.heap.size 1 A0 n c0 (u8s x)) (hr : r < 18446744073709551616) (ha : a < 18446744073709551616) (hb : b < 18446744073709551616) (hz : 0 ≤ z ∧ z ≤ 255) (h4 : Int.tmod z 8 = 6) :
    Calls Try.prog 17 #[.pointer (some ⟨P, 0, none⟩), .pointer (some ⟨R, 0, none⟩), .agg #[.int .u8 z, .int .i64 i, .int .u64 r, .int .u64 a, .int .u64 b, .int .i64 p, .int .i64 s, .slice A0 n c0]] wr fun e w' => e = .returned (.tuple #[.pointer (some ⟨P, 0, none⟩), .bool true]) ∧ ∃ L' st', Duo w w' P R L' st' := by
  have HD := Lib.hid h
  have HS := Lib.hid hs
  obtain ⟨b0, hb0⟩ : ∃ b0, wr.heap.size = b0 := ⟨_, rfl⟩
  obtain ⟨W1, hW1⟩ : ∃ W1, wr.alloc (.cells #[.int .u8 z, .int .i64 i, .int .u64 r, .int .u64 a, .int .u64 b, .int .i64 p, .int .i64 s, .slice A0 n c0] 35) = W1 := ⟨_, rfl⟩
  have HO1 : Hid (Blk W1 b0 35 #[.int .u8 z, .int .i64 i, .int .u64 r, .int .u64 a, .int .u64 b, .int .i64 p, .int .i64 s, .slice A0 n c0]) := Lib.hid (by rw [← hW1, ← hb0]; exact Blk.new wr _ _)
  have HB1 : Hid (Below b0 wr W1) := Lib.hid (by rw [← hW1, ← hb0]; exact bel_alloc _ _)
  have HW1 := Lib.hid hW1
  have HBZ := Lib.hid hb0
  obtain ⟨d, hd⟩ : ∃ d, x.take 230 = d := ⟨_, rfl⟩
  obtain ⟨m, hm⟩ : ∃ m, min n 230 = m := ⟨_, rfl⟩
  have HDL : Hid (d.length = m) := Lib.hid (by rw [← hd, ← hm, List.length_take, hx]; omega)
  have hm230 : m ≤ 230 := by omega
  have HF : Hid (∀ w0, Sl w0 w0.heap.size 1 A0 n c0 (u8s x) → Calls Try.prog 37 #[.agg #[.int .u64 r, .int .u64 a, .int .u64 b, .int .i64 p, .int .i64 s, .slice A0 n c0]] w0 fun e w' => ∃ v, e = .returned (.agg #[.int .u64 r, .int .u64 a, .int .u64 b, .int .i64 p, .int .i64 s, v]) ∧ OwnB w' w0.heap.size v m (u8s d) ∧ Below w0.heap.size w0 w') := Lib.hid (fun w0 h0 => by have := few_any r a b p s A0 n c0 x w0 h0; rwa [hm, hd] at this)
  clear h hs hW1 hd hm
  go_enter Try.func17, Try.ntmps17
  go_wp2_with fail
  rw [HW1.out]
  refine (HF.out _ (HS.out.on (by rw [HBZ.out]; exact HB1.out))).mono ?_
  rintro e w2 ⟨v, rfl, hov, hb2⟩
  obtain ⟨Au, cu, rfl, _⟩ := Sl.of_own hov
  have hb1s : b0 ≤ W1.heap.size := Nat.le_of_lt (Blk.lt HO1.out)
  obtain ⟨T8, hT8⟩ : ∃ T8, w2.heap.size = T8 := ⟨_, rfl⟩
  obtain ⟨w3, hw3⟩ : ∃ w3, w2.alloc (.cells #[.int .u64 r, .int .u64 a, .int .u64 b, .int .i64 p, .int .i64 s, .slice Au m cu] 33) = w3 := ⟨_, rfl⟩
  have hb3 : Below W1.heap.size W1 w3 := by rw [← hw3]; exact bel_trans hb2 (bel_alloc _ _)
  have HO3 := Lib.hid (Blk.below HO1.out hb3 (Blk.lt HO1.out))
  have HT3 : Hid (Blk w3 T8 33 #[.int .u64 r, .int .u64 a, .int .u64 b, .int .i64 p, .int .i64 s, .slice Au m cu]) := Lib.hid (by rw [← hw3, ← hT8]; exact Blk.new w2 _ _)
  have HU3 : Hid (OwnB w3 b0 (.slice Au m cu) m (u8s d)) := Lib.hid (by rw [← hw3]; exact own_mono (World.ownsRow.alloc hov _) hb1s)
  have HB3 : Hid (Below b0 wr w3) := Lib.hid (HB1.out.trans (hb3.mono hb1s))
  have HD3 := Lib.hid (HD.out.below (by rw [HBZ.out]; exact HB3.out))
  have HW3 : Hid (w2.alloc (.cells #[.int .u64 r, .int .u64 a, .int .u64 b, .int .i64 p, .int .i64 s, .slice Au m cu] 33) = w3 ∧ w2.heap.size = T8 ∧ b0 ≤ T8) := Lib.hid ⟨hw3, hT8, by rw [← hT8]; exact Nat.le_trans hb1s hb2.size⟩
  clear hov hb2 hb1s hT8 hw3 hb3
  go_upto_region 2 with fail
  rw [HW3.out.1, HW3.out.2.1]
  have o0 := HO3.out.cell 0
  have o1 := HO3.out.cell 1
  obtain ⟨hHp, ⟨F, E, A, c, hE, hR, hFP, hFB⟩, hwP, hbel⟩ := HD.out
  have hbP : b0 ≠ P := by have := hHp.lt; have := HBZ.out; omega
  have hFb : ¬ F b0 := fun hg => by have := hR.lt b0 hg; have := HBZ.out; omega
  have hTb : b0 ≤ T8 := HW3.out.2.2
  have hTP : T8 ≠ P := by have := hHp.lt; have := HBZ.out; omega
  have hFT : ¬ F T8 := fun hg => by have := hR.lt T8 hg; have := HBZ.out; omega
  have hlb := Blk.lt HO3.out
  have hlT := Blk.lt HT3.out
  have hbelw : Below wr.heap.size wr w3 → Below w.heap.size w w3 := fun k => hbel.trans (k.mono hbel.size)
  have HFL : Hid (∀ g, F g → g < b0) := Lib.hid (fun g hg => by have := hR.lt g hg; have := HBZ.out; omega)
  have HBW := Lib.hid (hbelw (by rw [HBZ.out]; exact HB3.out))
  have HH := Lib.hid (And.intro (hHp.below (by rw [HBZ.out]; exact HB3.out) hHp.lt) (And.intro (hR.below (by rw [HBZ.out]; exact HB3.out)) (And.intro hFP (And.intro hFB (And.intro hwP hbel)))))
  obtain ⟨xr, L', hft⟩ := free_ex L i
  have HCP : Hid (∀ w0, Hp w0 P L st → Calls Try.prog 35 #[.pointer (some ⟨P, 0, none⟩), .int .i64 i] w0 fun e w' => e = .returned (.int .i64 xr) ∧ Hp w' P L' st ∧ Only P w0 w') := Lib.hid (fun w0 h0 => freeP h0 i xr L' hft)
  have HCR : Hid (∀ w0, RfA w0 F R E st A c → Calls Try.prog 63 #[.pointer (some ⟨R, 0, none⟩), .int .i64 i] w0 fun e w' => e = .returned (.int .i64 xr) ∧ (∃ E', E'.map Prod.fst = L' ∧ RfA w' F R E' st A c) ∧ Turn F w0 w') := Lib.hid (fun w0 h0 => freeF h0 hE i xr L' hft)
  clear hft hHp hR hFP hFB hwP hbel hE
  go_wp2_with fail
  go_region_held3 (fun w' => w'.cell? ⟨b0, 1, none⟩ = some (.int .i64 i)) (first | go_keep | exact ho4.cell (p := ⟨b0, 1, none⟩) hlb hbP (HO3.out.cell 1) | exact ht5.cell (p := ⟨b0, 1, none⟩) (Nat.lt_of_lt_of_le hlb ho4.size) hFb (ho4.cell (p := ⟨b0, 1, none⟩) hlb hbP (HO3.out.cell 1)))
    (first
      | (go_at_call 35; refine (HCP.out _ HH.out.1.drew).mono ?_; rintro e w4 ⟨rfl, hp4, ho4⟩)
      | (go_at_call 63; refine (HCR.out _ ((HH.out.2.1).drew.only ho4 HH.out.2.2.1)).mono ?_; rintro e w5 ⟨rfl, ⟨E5, hE5, hr5⟩, ht5⟩))
  go_wp2_with fail
  go_ret2
  exact ⟨rfl, L', st, Duo.two (hbelw (by rw [HBZ.out]; exact HB3.out)) hp4 ((Only.refl P w3).drew.trans ho4) hE5 hr5 ht5 HH.out.2.2.1 HH.out.2.2.1 HH.out.2.2.2.1 HH.out.2.2.2.1 HH.out.2.2.2.2.1⟩
end
end Go.Proofs.Ytbkdbnkakjogjaa.Mem
/- A version, a place among the arguments: opened. -/
namespace Go.Proofs.Ytbkdbnkakjogjaa.Mem
open Go.RowKit Go.Proofs.Ytbkdbnkakjogjaa.Nums Go.ChangeShapes Go.WideShapes Go.Deep Go.Joins
set_option linter.unusedVariables false
set_option linter.unusedSimpArgs false
set_option maxRecDepth 100000
theorem list_of {α : Type} (P : Nat → α → Prop) : ∀ n, (∀ i, i < n → ∃ v, P i v) → ∃ l : List α, l.length = n ∧ ∀ i v, l[i]? = some v → P i v
  | 0, _ => ⟨[], rfl, fun i v h => by simp at h⟩
  | n + 1, h => by
    obtain ⟨l, hl, hp⟩ := list_of P n (fun i hi => h i (by omega))
    obtain ⟨v, hv⟩ := h n (by omega)
    refine ⟨l ++ [v], by simp [hl], fun i u hu => ?_⟩
    by_cases hi : i < n
    · rw [List.getElem?_append_left (by omega)] at hu
      exact hp i u hu
    · have hin : i = n := by
        have := (List.getElem?_eq_some_iff.1 hu).1
        rw [List.length_append, hl] at this
        simp at this
        omega
      subst hin
      rw [← hl, List.getElem?_append_right (Nat.le_refl _), Nat.sub_self] at hu
      simp at hu
      subst hu
      exact hv
theorem u64_nat {x : Int} (h : (Lit.int .u64 x).wf = true) : ∃ n : Nat, x = n ∧ n < 18446744073709551616 := by
  have := h
  simp [Lit.wf, IntKind.min, IntKind.max, IntKind.signed, IntKind.bits] at this
  exact ⟨x.toNat, by omega, by omega⟩
theorem array6 {α : Type} {cs : Array α} (h : cs.size = 6) : ∃ c0 c1 c2 c3 c4 c5, cs = #[c0, c1, c2, c3, c4, c5] := by
  obtain ⟨l⟩ := cs
  match l, h with
  | [c0, c1, c2, c3, c4, c5], _ => exact ⟨c0, c1, c2, c3, c4, c5, rfl⟩
section
variable {H : Type} {enc : TypeId × Value → H} {w : World} {base : Nat} {spare : Nat → Bool} {held : Bool}
theorem bytes_of {n : Nat} {cs : List Value} {y : DataW H × List MemPlace} (hf : DataW.trod enc Try.prog w base spare held n 31 cs = some y) :
    ∃ A m c x, cs = [.slice A m c] ∧ x.length = m ∧ Sl w w.heap.size 1 A m c (u8s x) := by
  rcases open_ints Try.underlying31 Try.underlying5 (by kernel_rfl) hf with ⟨hcs, _⟩ | ⟨a, len, cap, zs, hcs, hb, hl, hm, hz, hx, hc, hw⟩
  · exact ⟨none, 0, 0, [], hcs, rfl, ⟨rfl, Nat.le_refl _, by unfold maxLen; omega, fun _ => rfl, fun h => absurd h (by omega)⟩⟩
  · have hlz : len ≤ zs.length := by rw [hz]; split <;> omega
    obtain ⟨x, hxl, hxp⟩ := list_of (fun i (u : UInt8) => w.cell? (a.add i) = some (.int .u8 (u.toNat : Int))) len (fun i hi => by
      have hw' := hw (zs.getD i 0) (by rw [List.getD, List.getElem?_eq_getElem (by omega)]; exact List.getElem_mem _)
      have hb : 0 ≤ zs.getD i 0 ∧ zs.getD i 0 ≤ 255 := by
        have := hw'
        simp [Lit.wf, IntKind.min, IntKind.max, IntKind.signed, IntKind.bits] at this
        simp
        omega
      refine ⟨UInt8.ofNat (zs.getD i 0).toNat, ?_⟩
      rw [hc i (by omega)]
      congr 2
      rw [UInt8.toNat_ofNat']
      omega)
    refine ⟨some a, len, cap, x, hcs, hxl, ⟨by rw [u8s_len, hxl, Nat.mul_one], hl, hm, (fun e => by cases e), fun hn => ⟨a, rfl, ?_, ?_⟩⟩⟩
    · have := World.block_lt_of_cell? w _ (hxp 0 _ (List.getElem?_eq_getElem (by omega)))
      rw [add_block] at this
      exact this
    · intro j u hu
      have hj : j < x.length := by have := (List.getElem?_eq_some_iff.1 hu).1; rw [u8s_len] at this; exact this
      have hq : x[j]? = some (x[j]'hj) := List.getElem?_eq_getElem _
      have : (u8s x)[j]? = some (.int .u8 ((x[j]'hj).toNat : Int)) := by simp [u8s, hq]
      rw [this] at hu
      injection hu with hu
      rw [← hu]
      exact hxp j _ hq
theorem tid_of {n : Nat} {c3 c4 : Value} {y : DataW H × List MemPlace} (h : DataW.trod enc Try.prog w base spare held n 30 [c3, c4] = some y) : ∃ p s : Int, c3 = .int .i64 p ∧ c4 = .int .i64 s := by
  obtain ⟨y0, y1, m, hx, hl, h0, h1⟩ := trod_struct2 Try.underlying30 h
  have e0 : Try.prog.cellsOf 3 = 1 := by kernel_rfl
  simp only [e0, List.drop, List.take] at h0 h1
  obtain ⟨a, ha, -, wa⟩ := DataW.trod_int Try.underlying3 h0
  obtain ⟨b, hb, -, wb⟩ := DataW.trod_int Try.underlying3 h1
  simp only [List.cons.injEq, and_true] at ha hb
  exact ⟨a, b, ha, hb⟩
theorem open_tid {r : Reach} {b0 : Nat} {v : Value} {d : DataW H} {p : List MemPlace} (hval : Value.okWide Try.prog w r b0 30 v) (h : DataW.Trod enc Try.prog w base spare held 30 v d p) :
    ∃ p2 s2 : Int, v = .agg #[.int .i64 p2, .int .i64 s2] := by
  obtain ⟨cs, rfl, hsz⟩ := okWide_struct Try.underlying30 hval
  obtain ⟨c0, c1, rfl⟩ := array2 (hsz.trans (show Try.prog.cellsOf 30 = 2 by kernel_rfl))
  obtain ⟨fuel, hf⟩ := h
  obtain ⟨p2, s2, rfl, rfl⟩ := tid_of (c3 := c0) (c4 := c1) hf
  exact ⟨p2, s2, rfl⟩
theorem open_tuple {r : Reach} {b0 : Nat} {v : Value} {dd : DataW H} {pp : List MemPlace} (hval : Value.okWide Try.prog w r b0 33 v) (h : DataW.Trod enc Try.prog w base spare held 33 v dd pp) :
    ∃ (a b c : Nat) (p s : Int) (A : Option Addr) (n k : Nat) (x : List UInt8), v = .agg #[.int .u64 a, .int .u64 b, .int .u64 c, .int .i64 p, .int .i64 s, .slice A n k] ∧ x.length = n ∧ Sl w w.heap.size 1 A n k (u8s x) ∧ a < 18446744073709551616 ∧ b < 18446744073709551616 ∧ c < 18446744073709551616 := by
  obtain ⟨cs, rfl, hsz⟩ := okWide_struct Try.underlying33 hval
  obtain ⟨c0, c1, c2, c3, c4, c5, rfl⟩ := array6 (hsz.trans (show Try.prog.cellsOf 33 = 6 by kernel_rfl))
  obtain ⟨fuel, hf⟩ := h
  obtain ⟨xs, n, _, _, hl, hlen, hfs⟩ := DataW.trod_struct Try.underlying33 hf
  match xs, hlen with
  | [y0, y1, y2, y3, y4], _ =>
    have h0 := hfs 0 _ rfl
    have h1 := hfs 1 _ rfl
    have h2 := hfs 2 _ rfl
    have h3 := hfs 3 _ rfl
    have h4 := hfs 4 _ rfl
    have e0 : Try.prog.cellsOf 28 = 1 := by kernel_rfl
    have e1 : Try.prog.cellsOf 30 = 2 := by kernel_rfl
    have e2 : Try.prog.cellsOf 31 = 1 := by kernel_rfl
    simp [e0, e1, e2, Value.cells] at h0 h1 h2 h3 h4
    obtain ⟨a, ha, -, wa⟩ := DataW.trod_int Try.underlying28 h0
    obtain ⟨b, hb, -, wb⟩ := DataW.trod_int Try.underlying28 h1
    obtain ⟨c, hc, -, wc⟩ := DataW.trod_int Try.underlying28 h2
    obtain ⟨p, s, hp, hs⟩ := tid_of h3
    obtain ⟨A, m, k, x, hx, hxl, hxs⟩ := bytes_of h4
    simp only [List.cons.injEq, and_true] at ha hb hc hx
    obtain ⟨a, rfl, la⟩ := u64_nat wa
    obtain ⟨b, rfl, lb⟩ := u64_nat wb
    obtain ⟨c, rfl, lc⟩ := u64_nat wc
    subst ha hb hc hp hs hx
    exact ⟨a, b, c, p, s, A, m, k, x, rfl, hxl, hxs, la, lb, lc⟩
end
end Go.Proofs.Ytbkdbnkakjogjaa.Mem
/- A slice of bytes among the arguments: opened. -/
namespace Go.Proofs.Ytbkdbnkakjogjaa.Mem
open Go.RowKit Go.Proofs.Ytbkdbnkakjogjaa.Nums Go.ChangeShapes Go.WideShapes Go.Deep Go.Joins
set_option linter.unusedVariables false
set_option linter.unusedSimpArgs false
set_option maxRecDepth 100000
section
variable {H : Type} {enc : TypeId × Value → H} {w : World} {base : Nat} {spare : Nat → Bool} {held : Bool}
theorem open_bytes {r : Reach} {b0 : Nat} {v : Value} {d : DataW H} {p : List MemPlace} (hval : Value.okWide Try.prog w r b0 31 v) (h : DataW.Trod enc Try.prog w base spare held 31 v d p) :
    ∃ A n c x, v = .slice A n c ∧ x.length = n ∧ Sl w w.heap.size 1 A n c (u8s x) := by
  obtain ⟨a0, n0, c0, rfl⟩ := okWide_slice Try.underlying31 hval
  obtain ⟨fuel, hf⟩ := h
  obtain ⟨A, m, c, x, hcs, hl, hs⟩ := bytes_of hf
  have : (Value.slice a0 n0 c0) = .slice A m c := by simpa [Value.cells] using hcs
  rw [this]
  exact ⟨A, m, c, x, rfl, hl, hs⟩
end
end Go.Proofs.Ytbkdbnkakjogjaa.Mem
/- A script's operations among the arguments: opened. -/
namespace Go.Proofs.Ytbkdbnkakjogjaa.Mem
open Go.RowKit Go.Proofs.Ytbkdbnkakjogjaa.Nums Go.ChangeShapes Go.WideShapes Go.Deep Go.Joins
set_option linter.unusedVariables false
set_option linter.unusedSimpArgs false
set_option maxRecDepth 100000
/-- an operation: its number, its slot, its version with the Data's slice and the Data -/
structure Op5 where
  z : Int
  i : Int
  r : Nat
  a : Nat
  b : Nat
  p : Int
  s : Int
  A : Option Addr
  n : Nat
  c : Nat
  x : List UInt8
def Op5.cells (o : Op5) : List Value := [.int .u8 o.z, .int .i64 o.i, .int .u64 o.r, .int .u64 o.a, .int .u64 o.b, .int .i64 o.p, .int .i64 o.s, .slice o.A o.n o.c]
structure Op5.ok (o : Op5) (w : World) : Prop where
  z : 0 ≤ o.z ∧ o.z ≤ 255
  i : Nums.In64 o.i
  r : o.r < 18446744073709551616
  a : o.a < 18446744073709551616
  b : o.b < 18446744073709551616
  len : o.x.length = o.n
  sl : Sl w w.heap.size 1 o.A o.n o.c (u8s o.x)
def ops5 (l : List Op5) : List Value := l.flatMap Op5.cells
theorem ops5_len (l : List Op5) : (ops5 l).length = l.length * 8 := by
  induction l with
  | nil => rfl
  | cons o l ih => show (o.cells ++ ops5 l).length = _; rw [List.length_append, ih, List.length_cons]; show 8 + _ = _; omega
theorem ops5_at : ∀ (l : List Op5) (k : Nat) (o : Op5), l[k]? = some o → ∀ j, j < 8 → (ops5 l)[k * 8 + j]? = o.cells[j]?
  | [], k, o, h, j, hj => by simp at h
  | y :: l, 0, o, h, j, hj => by
    simp at h; subst h
    show (y.cells ++ ops5 l)[0 * 8 + j]? = _
    rw [Nat.zero_mul, Nat.zero_add, List.getElem?_append_left (show j < y.cells.length from hj)]
  | y :: l, k + 1, o, h, j, hj => by
    show (y.cells ++ ops5 l)[(k + 1) * 8 + j]? = _
    have e : y.cells.length = 8 := rfl
    rw [List.getElem?_append_right (by omega), e, show (k + 1) * 8 + j - 8 = k * 8 + j by omega]
    exact ops5_at l k o (by simpa using h) j hj
theorem cellsO5 : Try.prog.cellsOf 35 = 8 := by kernel_rfl
theorem i64_in {x : Int} (h : (Lit.int .i64 x).wf = true) : Nums.In64 x := by
  have := h
  simp [Lit.wf, IntKind.min, IntKind.max, IntKind.signed, IntKind.bits] at this
  unfold Nums.In64
  omega
theorem u8_in {x : Int} (h : (Lit.int .u8 x).wf = true) : 0 ≤ x ∧ x ≤ 255 := by
  have := h
  simp [Lit.wf, IntKind.min, IntKind.max, IntKind.signed, IntKind.bits] at this
  omega
section
variable {H : Type} {enc : TypeId × Value → H} {w : World} {base : Nat} {spare : Nat → Bool} {held : Bool}
theorem tuple_of {n : Nat} {c0 c1 c2 c3 c4 c5 : Value} {y : DataW H × List MemPlace} (hf : DataW.trod enc Try.prog w base spare held n 33 [c0, c1, c2, c3, c4, c5] = some y) :
    ∃ (a b c : Nat) (p s : Int) (A : Option Addr) (m k : Nat) (x : List UInt8), c0 = .int .u64 a ∧ c1 = .int .u64 b ∧ c2 = .int .u64 c ∧ c3 = .int .i64 p ∧ c4 = .int .i64 s ∧ c5 = .slice A m k ∧ x.length = m ∧ Sl w w.heap.size 1 A m k (u8s x) ∧ a < 18446744073709551616 ∧ b < 18446744073709551616 ∧ c < 18446744073709551616 := by
  obtain ⟨xs, n, _, _, hl, hlen, hfs⟩ := DataW.trod_struct Try.underlying33 hf
  match xs, hlen with
  | [y0, y1, y2, y3, y4], _ =>
    have h0 := hfs 0 _ rfl
    have h1 := hfs 1 _ rfl
    have h2 := hfs 2 _ rfl
    have h3 := hfs 3 _ rfl
    have h4 := hfs 4 _ rfl
    have e0 : Try.prog.cellsOf 28 = 1 := by kernel_rfl
    have e1 : Try.prog.cellsOf 30 = 2 := by kernel_rfl
    have e2 : Try.prog.cellsOf 31 = 1 := by kernel_rfl
    simp [e0, e1, e2, Value.cells] at h0 h1 h2 h3 h4
    obtain ⟨a, ha, -, wa⟩ := DataW.trod_int Try.underlying28 h0
    obtain ⟨b, hb, -, wb⟩ := DataW.trod_int Try.underlying28 h1
    obtain ⟨c, hc, -, wc⟩ := DataW.trod_int Try.underlying28 h2
    obtain ⟨p, s, hp, hs⟩ := tid_of h3
    obtain ⟨A, m, k, x, hx, hxl, hxs⟩ := bytes_of h4
    simp only [List.cons.injEq, and_true] at ha hb hc hx
    obtain ⟨a, rfl, la⟩ := u64_nat wa
    obtain ⟨b, rfl, lb⟩ := u64_nat wb
    obtain ⟨c, rfl, lc⟩ := u64_nat wc
    exact ⟨a, b, c, p, s, A, m, k, x, ha, hb, hc, hp, hs, hx, hxl, hxs, la, lb, lc⟩
theorem op5_of {n : Nat} {cs : List Value} {y : DataW H × List MemPlace} (h : DataW.trod enc Try.prog w base spare held n 35 cs = some y) : ∃ o : Op5, cs = o.cells ∧ o.ok w := by
  obtain ⟨y0, y1, y2, m, hx, hl, h0, h1, h2⟩ := trod_struct3 Try.underlying35 h
  rw [cellsO5] at hl
  match cs, hl with
  | [c0, c1, c2, c3, c4, c5, c6, c7], _ =>
    have e0 : Try.prog.cellsOf 3 = 1 := by kernel_rfl
    have e1 : Try.prog.cellsOf 5 = 1 := by kernel_rfl
    have e2 : Try.prog.cellsOf 33 = 6 := by kernel_rfl
    simp only [e0, e1, e2, List.drop, List.take] at h0 h1 h2
    obtain ⟨a, ha, -, wa⟩ := DataW.trod_int Try.underlying5 h0
    obtain ⟨b, hb, -, wb⟩ := DataW.trod_int Try.underlying3 h1
    simp only [List.cons.injEq, and_true] at ha hb
    obtain ⟨r, q, t, p, s, A, mm, k, x, k1, k2, k3, k4, k5, k6, hxl, hxs, la, lb, lc⟩ := tuple_of h2
    subst ha hb k1 k2 k3 k4 k5 k6
    exact ⟨⟨a, b, r, q, t, p, s, A, mm, k, x⟩, rfl, u8_in wa, i64_in wb, la, lb, lc, hxl, hxs⟩
theorem open_op5 {r : Reach} {b0 : Nat} {v : Value} {d : DataW H} {p : List MemPlace} (hval : Value.okWide Try.prog w r b0 35 v) (h : DataW.Trod enc Try.prog w base spare held 35 v d p) : ∃ o : Op5, v = .agg o.cells.toArray ∧ o.ok w := by
  obtain ⟨cs, rfl, hsz⟩ := okWide_struct Try.underlying35 hval
  obtain ⟨fuel, hf⟩ := h
  obtain ⟨o, ho, hok⟩ := op5_of hf
  have : cs.toList = o.cells := by simpa [Value.cells] using ho
  exact ⟨o, by rw [← this], hok⟩
theorem open_ops5 {r : Reach} {b0 : Nat} {v : Value} {d : DataW H} {p : List MemPlace} (hval : Value.okWide Try.prog w r b0 22 v) (h : DataW.Trod enc Try.prog w base spare held 22 v d p) :
    ∃ A n c l, v = .slice A n c ∧ l.length = n ∧ Sl w w.heap.size 8 A n c (ops5 l) ∧ ∀ o ∈ l, o.ok w := by
  obtain ⟨a0, n0, c0, rfl⟩ := okWide_slice Try.underlying22 hval
  obtain ⟨fuel, hf⟩ := h
  rcases open_slice Try.underlying22 hf with ⟨hcs, _⟩ | ⟨a, len, cap, m, n, D, Pl, hcs, hb, hl, hm, hmm, hx, hi⟩
  · have : (Value.slice a0 n0 c0) = .slice none 0 0 := by simpa [Value.cells] using hcs
    rw [this]
    exact ⟨none, 0, 0, [], rfl, rfl, ⟨rfl, Nat.le_refl _, by unfold maxLen; omega, fun _ => rfl, fun h => absurd h (by omega)⟩, fun o ho => by cases ho⟩
  · have e : (Value.slice a0 n0 c0) = .slice (some a) len cap := by simpa [Value.cells] using hcs
    rw [e]
    have hlm : len ≤ m := by rw [hmm]; split <;> omega
    obtain ⟨l, hll, hlp⟩ := list_of (fun i (u : Op5) => (∀ j c, (Op5.cells u)[j]? = some c → w.cell? (a.add (i * 8 + j)) = some c) ∧ u.ok w) len (fun i hi' => by
      obtain ⟨cs', hc, ht⟩ := hi i (by omega)
      obtain ⟨u, rfl, hok⟩ := op5_of ht
      rw [cellsO5] at hc
      obtain ⟨_, hcl, hat⟩ := World.cells?_some hc
      refine ⟨u, fun j c hj => ?_, hok⟩
      have hj3 : j < 8 := by rw [← hcl]; exact (List.getElem?_eq_some_iff.1 hj).1
      rw [← add_two, hat j hj3, hj])
    refine ⟨some a, len, cap, l, rfl, hll, ⟨by rw [ops5_len, hll], hl, hm, (fun e => by cases e), fun hn => ⟨a, rfl, ?_⟩⟩, fun u hu => ?_⟩
    · have hall : ∀ j u, (ops5 l)[j]? = some u → w.cell? (a.add j) = some u := by
        intro j u hu
        have hj : j < l.length * 8 := by rw [← ops5_len]; exact (List.getElem?_eq_some_iff.1 hu).1
        have hq : l[j / 8]? = some (l[j / 8]'(by omega)) := List.getElem?_eq_getElem _
        have hr := ops5_at l (j / 8) _ hq (j % 8) (by omega)
        have hjj : j / 8 * 8 + j % 8 = j := by omega
        rw [hjj] at hr
        rw [hr] at hu
        have := (hlp _ _ hq).1 _ _ hu
        rw [hjj] at this
        exact this
      refine ⟨?_, hall⟩
      have hq : l[0]? = some (l[0]'(by omega)) := List.getElem?_eq_getElem _
      have := World.block_lt_of_cell? w _ ((hlp 0 _ hq).1 0 _ rfl)
      rw [add_block] at this
      exact this
    · obtain ⟨i, hi', e⟩ := List.mem_iff_getElem.1 hu
      exact (hlp i u (by rw [← e]; exact List.getElem?_eq_getElem _)).2
end
/-- an operation's eight cells -/
theorem op5_cells {w w' : World} {A : Option Addr} {n c : Nat} {l : List Op5} (h : Sl w w.heap.size 8 A n c (ops5 l)) (hb : Below w.heap.size w w') {k : Nat} {o : Op5} (ho : l[k]? = some o) (hn : l.length = n) : ∃ ad, A = some ad ∧
    w'.cell? (ad.add (k * 8)) = some (.int .u8 o.z) ∧ w'.cell? ⟨(ad.add (k * 8)).block, (ad.add (k * 8)).off + 1, none⟩ = some (.int .i64 o.i) ∧ w'.cell? ⟨(ad.add (k * 8)).block, (ad.add (k * 8)).off + 2, none⟩ = some (.int .u64 o.r) ∧ w'.cell? ⟨(ad.add (k * 8)).block, (ad.add (k * 8)).off + 3, none⟩ = some (.int .u64 o.a) ∧ w'.cell? ⟨(ad.add (k * 8)).block, (ad.add (k * 8)).off + 4, none⟩ = some (.int .u64 o.b) ∧ w'.cell? ⟨(ad.add (k * 8)).block, (ad.add (k * 8)).off + 5, none⟩ = some (.int .i64 o.p) ∧ w'.cell? ⟨(ad.add (k * 8)).block, (ad.add (k * 8)).off + 6, none⟩ = some (.int .i64 o.s) ∧ w'.cell? ⟨(ad.add (k * 8)).block, (ad.add (k * 8)).off + 7, none⟩ = some (.slice o.A o.n o.c) := by
  have hk := (List.getElem?_eq_some_iff.1 ho).1
  obtain ⟨ad, hA, hat⟩ := h.at_ (by omega)
  have key : ∀ j y, o.cells[j]? = some y → j < 8 → w'.cell? (ad.add (k * 8 + j)) = some y := fun j y hy hj => (hat.below hb).2 (k * 8 + j) y (by rw [ops5_at l k o ho j hj]; exact hy)
  have e : ∀ j y, o.cells[j + 1]? = some y → j + 1 < 8 → w'.cell? ⟨(ad.add (k * 8)).block, (ad.add (k * 8)).off + (j + 1), none⟩ = some y := fun j y hy hj => by
    rw [← add_succ, add_two]
    exact key _ _ hy hj
  exact ⟨ad, hA, key 0 _ rfl (by omega), e 0 _ rfl (by omega), e 1 _ rfl (by omega), e 2 _ rfl (by omega), e 3 _ rfl (by omega), e 4 _ rfl (by omega), e 5 _ rfl (by omega), e 6 _ rfl (by omega)⟩
end Go.Proofs.Ytbkdbnkakjogjaa.Mem
/- lapidarylaw05.build. -/
namespace Go.Proofs.Ytbkdbnkakjogjaa.Mem
open Go.RowKit Go.Proofs.Ytbkdbnkakjogjaa.Nums
set_option linter.unusedVariables false
set_option linter.unusedSimpArgs false
set_option maxRecDepth 100000
set_option maxHeartbeats 2000000
theorem do_any {w wr : World} {P R st : Nat} {L : SL} (h : Duo w wr P R L st) (o : Op5) (hok : o.ok wr) (h7 : ¬ o.z % 8 = 7) :
    Calls Try.prog 17 #[.pointer (some ⟨P, 0, none⟩), .pointer (some ⟨R, 0, none⟩), .agg #[.int .u8 o.z, .int .i64 o.i, .int .u64 o.r, .int .u64 o.a, .int .u64 o.b, .int .i64 o.p, .int .i64 o.s, .slice o.A o.n o.c]] wr fun e w' => e = .returned (.tuple #[.pointer (some ⟨P, 0, none⟩), .bool true]) ∧ ∃ L' st', Duo w w' P R L' st' := by
  have e : Int.tmod o.z 8 = o.z % 8 := Int.tmod_eq_emod_of_nonneg hok.z.1
  by_cases h4 : o.z % 8 = 4
  · exact do_stamp h o.z o.i o.r o.a o.b o.p o.s o.x hok.len hok.sl hok.r hok.a hok.b hok.z (by rw [e]; exact h4)
  · by_cases h5 : o.z % 8 = 5
    · exact do_free5 h o.z o.i o.r o.a o.b o.p o.s o.x hok.len hok.sl hok.r hok.a hok.b hok.z (by rw [e]; exact h5)
    · by_cases h6 : o.z % 8 = 6
      · exact do_free6 h o.z o.i o.r o.a o.b o.p o.s o.x hok.len hok.sl hok.r hok.a hok.b hok.z (by rw [e]; exact h6)
      · exact do_ins h o.z o.i o.r o.a o.b o.p o.s o.x hok.len hok.sl hok.r hok.a hok.b hok.z h4 h5 h6 h7
theorem Op5.ok.below {o : Op5} {w w' : World} (h : o.ok w) (hb : Below w.heap.size w w') : o.ok w' := ⟨h.z, h.i, h.r, h.a, h.b, h.len, h.sl.on hb⟩
theorem duo_new (w wr : World) (hb0 : Below w.heap.size w wr) :
    ∀ w1 w2, Hp w1 wr.heap.size [] 512 → Below wr.heap.size wr w1 → RfA w2 (fun g => g = w1.heap.size) w1.heap.size [] 512 none 0 → Below w1.heap.size w1 w2 → Duo w w2 wr.heap.size w1.heap.size [] 512 := fun w1 w2 hp hb1 hr hb2 =>
  ⟨hp.below hb2 hp.lt, ⟨_, [], none, 0, rfl, hr, (fun e => by have := hp.lt; omega), fun g hg => by subst hg; exact Nat.le_trans hb0.size hb1.size⟩, hb0.size, (hb0.trans (hb1.mono hb0.size)).trans (hb2.mono (Nat.le_trans hb0.size hb1.size))⟩
theorem build_any (w : World) (l : List Op5) (A : Option Addr) (n c : Nat) (hl : l.length = n) (hs : Sl w w.heap.size 8 A n c (ops5 l)) (hok : ∀ o ∈ l, o.ok w) (most : Int) (hm : 0 ≤ most ∧ most ≤ 1000) :
    Calls Try.prog 36 #[.slice A n c, .int .i64 most] w fun e w' => ∃ P R L st, e = .returned (.pointer (some ⟨P, 0, none⟩)) ∧ Duo w w' P R L st := by
  have hcap := hs.cap
  have hle := hs.le
  unfold maxLen at hcap
  have HS := Lib.hid hs
  have HL := Lib.hid hl
  have HOK := Lib.hid hok
  clear hs hl hok
  go_enter Try.func36, Try.ntmps36
  go_wp2_with fail
  refine (new_has w).mono ?_
  rintro e w1 ⟨rfl, hp1, hb1⟩
  go_wp2_with fail
  refine (rnew_any w1).mono ?_
  rintro e w2 ⟨rfl, hr2, hb2⟩
  have HD := Lib.hid (duo_new w w (Below.refl _ _) w1 w2 hp1 hb1 hr2 hb2)
  obtain ⟨P, hP⟩ : ∃ P, w.heap.size = P := ⟨_, rfl⟩
  obtain ⟨R, hR⟩ : ∃ R, w1.heap.size = R := ⟨_, rfl⟩
  rw [hP, hR] at HD
  rw [hP, hR]
  clear hp1 hb1 hr2 hb2 hP hR
  go_wp2_with fail
  go_loopw [5, 13] (fun pv i wl => ∃ (k : Nat) (L : SL) (st : Nat), k ≤ n ∧ pv = .pointer (some ⟨P, 0, none⟩) ∧ i = .int .i64 k ∧ Duo w wl P R L st) (fun _ i _ => n - (intOf i).toNat)
  case atStart => exact ⟨0, [], 512, by omega, rfl, rfl, HD.out⟩
  case round =>
    obtain ⟨k, L, st, hk, rfl, rfl, hd⟩ := hrel
    have HK := Lib.hid hd
    clear hd HD
    by_cases hlt : k < n
    · have hlt' : (k : Int) < n := by omega
      obtain ⟨o, ho⟩ : ∃ o, l[k]? = some o := ⟨_, List.getElem?_eq_getElem (by rw [HL.out]; exact hlt)⟩
      have hokw := (HOK.out o (List.mem_of_getElem? ho)).below HK.out.2.2.2
      have HOW := Lib.hid hokw
      obtain ⟨ad, rfl, y0, y1, y2, y3, y4, y5, y6, y7⟩ := op5_cells HS.out HK.out.2.2.2 ho HL.out
      obtain ⟨W, hW⟩ : ∃ W, wr.alloc (.cells #[.int .u8 o.z, .int .i64 o.i, .int .u64 o.r, .int .u64 o.a, .int .u64 o.b, .int .i64 o.p, .int .i64 o.s, .slice o.A o.n o.c] 35) = W := ⟨_, rfl⟩
      have HB := Lib.hid (bel_alloc wr (.cells #[.int .u8 o.z, .int .i64 o.i, .int .u64 o.r, .int .u64 o.a, .int .u64 o.b, .int .i64 o.p, .int .i64 o.s, .slice o.A o.n o.c] 35))
      rw [hW] at HB
      have HW := Lib.hid hW
      have hz := hokw.z
      have e : Int.tmod o.z 8 = o.z % 8 := Int.tmod_eq_emod_of_nonneg hz.1
      clear hW ho hokw
      by_cases hmk : (k : Int) < most
      · by_cases h7 : o.z % 8 = 7
        · have e7 : (o.z % 8 == 7) = true := by rw [beq_iff_eq]; exact h7
          go_wp2_with fail
          go_roundw
          case rel => exact ⟨k + 1, L, st, by omega, rfl, by go_num, by first | exact HK.out.below (bel_alloc _ _) | (rw [HW.out]; exact HK.out.below HB.out)⟩
          case measure => simp [intOf]; omega
        · have e7 : (o.z % 8 == 7) = false := beq_eq_false_iff_ne.2 h7
          go_wp2_with fail
          rw [HW.out]
          refine (do_any (HK.out.below HB.out) o (HOW.out.below HB.out) h7).mono ?_
          rintro e w5 ⟨rfl, L', st', hd5⟩
          have HD5 := Lib.hid hd5
          clear hd5
          go_wp2_with fail
          go_roundw
          case rel => exact ⟨k + 1, L', st', by omega, rfl, by go_num, HD5.out⟩
          case measure => simp [intOf]; omega
      · go_wp2_with fail
        go_roundw
        case rel => exact ⟨k + 1, L, st, by omega, rfl, by go_num, by first | exact HK.out.below (bel_alloc _ _) | (rw [HW.out]; exact HK.out.below HB.out)⟩
        case measure => simp [intOf]; omega
    · obtain rfl : k = n := by omega
      go_wp2_with fail
      go_ret
      exact ⟨P, R, L, st, rfl, HK.out⟩
end Go.Proofs.Ytbkdbnkakjogjaa.Mem
/- Pages all of whose versions are one and the same: filled, with a hole, filled again. -/
namespace Go.Proofs.Ytbkdbnkakjogjaa.Mem
open Go.RowKit Go.Proofs.Ytbkdbnkakjogjaa.Nums
set_option linter.unusedVariables false
set_option linter.unusedSimpArgs false
set_option maxRecDepth 100000
/-- n slots, each with this version -/
structure Row (v : Ver) (n : Nat) (L : SL) : Prop where
  len : L.length = n
  all : ∀ j, j < n → ∃ f, L[j]? = some (some (v, f))
/-- .. but slot j is free -/
structure Hole (v : Ver) (n j : Nat) (L : SL) : Prop where
  lt : j < n
  next : nextL L = j
  len : max L.length (j + 1) = n
  tot : tot L + v.sz = n * v.sz
  all : ∀ i, i < n → i ≠ j → ∃ f, L[i]? = some (some (v, f))
section
variable {v : Ver} {n j : Nat} {L : SL}
theorem tot_same {z : Nat} : ∀ {L : SL}, (∀ o ∈ L, osz o = z) → tot L = L.length * z
  | [], _ => by simp [Mem.tot]
  | o :: l, h => by
    have := tot_same (L := l) (z := z) fun x hx => h x (List.mem_cons_of_mem _ hx)
    have h0 := h o (List.mem_cons_self ..)
    simp [Mem.tot] at this ⊢
    rw [this, h0, Nat.add_mul]
    omega
theorem Row.next (h : Row v n L) : nextL L = n :=
  nextL_eq (fun j hj => by obtain ⟨f, hf⟩ := h.all j hj; exact ⟨_, hf⟩) (by rw [h.len]; exact Nat.le_refl _) (fun hn => by rw [h.len] at hn; omega)
theorem Row.tot (h : Row v n L) : Mem.tot L = n * v.sz := by
  rw [tot_same (z := v.sz), h.len]
  intro o ho
  obtain ⟨i, hi, rfl⟩ := List.getElem_of_mem ho
  obtain ⟨f, hf⟩ := h.all i (by rw [← h.len]; exact hi)
  rw [List.getElem?_eq_getElem hi] at hf
  injection hf with hf
  rw [hf]
  rfl
theorem Row.room (h : Row v n L) : roomL L = max (478 - 4 * ((n + 1 : Nat) : Int) - (n * v.sz : Nat)) (-1) := by
  unfold roomL
  rw [h.next, h.len, h.tot, Nat.max_eq_right (by omega)]
theorem Row.nil : Row v 0 [] := ⟨rfl, fun j hj => absurd hj (by omega)⟩
theorem insS_len (L : SL) (st : Nat) (v : Ver) : (insS L st v).1.length = max L.length (nextL L + 1) := by
  unfold insS
  split
  · show (putL _ _ _).length = _
    rw [putL_len (by rw [packL_len]; exact nextL_le L), packL_len]
  · show (putL _ _ _).length = _
    rw [putL_len (nextL_le L)]
theorem insS_new (L : SL) (st : Nat) (v : Ver) : ∃ f, (insS L st v).1[nextL L]? = some (some (v, f)) := by
  unfold insS
  split
  · exact ⟨_, by show (putL _ _ _)[_]? = _; rw [putL_get (by rw [packL_len]; exact nextL_le L), if_pos rfl]⟩
  · exact ⟨_, by show (putL _ _ _)[_]? = _; rw [putL_get (nextL_le L), if_pos rfl]⟩
theorem insS_old {L : SL} (st : Nat) (v : Ver) {i : Nat} (hi : i ≠ nextL L) {u : Ver} {f : Nat} (h : L[i]? = some (some (u, f))) : ∃ f, (insS L st v).1[i]? = some (some (u, f)) := by
  unfold insS
  split
  · exact ⟨_, by show (putL _ _ _)[_]? = _; rw [putL_get (by rw [packL_len]; exact nextL_le L), if_neg hi, packL_some h]⟩
  · exact ⟨_, by show (putL _ _ _)[_]? = _; rw [putL_get (nextL_le L), if_neg hi, h]⟩
theorem Row.ins (h : Row v n L) (st : Nat) : Row v (n + 1) (insS L st v).1 := by
  have hx := h.next
  refine ⟨by rw [insS_len, hx, h.len]; omega, fun j hj => ?_⟩
  by_cases he : j = n
  · subst he
    have := insS_new L st v
    rwa [hx] at this
  · obtain ⟨f, hf⟩ := h.all j (by omega)
    exact insS_old st v (by rw [hx]; exact he) hf
theorem Hole.ins (h : Hole v n j L) (st : Nat) : Row v n (insS L st v).1 := by
  have hx := h.next
  refine ⟨by rw [insS_len, hx, h.len], fun i hi => ?_⟩
  by_cases he : i = j
  · subst he
    have := insS_new L st v
    rwa [hx] at this
  · obtain ⟨f, hf⟩ := h.all i hi he
    exact insS_old st v (by rw [hx]; exact he) hf
theorem Hole.room (h : Hole v n j L) : roomL L = max (478 - 4 * (n : Int) - (n * v.sz - v.sz : Nat)) (-1) := by
  unfold roomL
  have := h.tot
  rw [h.next, h.len, show Mem.tot L = n * v.sz - v.sz by omega]
theorem IsTrim.tot {M : SL} {k : Nat} (h : IsTrim M k) : Mem.tot (M.take k) = Mem.tot M := by
  have e : Mem.tot (M.take k) + Mem.tot (M.drop k) = Mem.tot M := by
    unfold Mem.tot
    rw [← List.sum_append, ← List.map_append, List.take_append_drop]
  have e2 : Mem.tot (M.drop k) = (M.drop k).length * 0 := tot_same fun o ho => by
    obtain ⟨i, hi, rfl⟩ := List.getElem_of_mem ho
    rw [List.length_drop] at hi
    have := h.free (k + i) (by omega) (by omega)
    rw [List.getElem?_eq_getElem (by omega)] at this
    injection this with this
    rw [List.getElem_drop, this]
    rfl
  omega
theorem Row.hole (h : Row v n L) (hj : j < n) {k : Nat} (hk : IsTrim (L.set j none) k) : Hole v n j ((L.set j none).take k) := by
  have hl : j < L.length := by rw [h.len]; exact hj
  have hkl := hk.le
  rw [List.length_set, h.len] at hkl
  have hget := set_get hl none
  have hsome : ∀ i, i < n → i ≠ j → ∃ f, (L.set j none)[i]? = some (some (v, f)) := fun i hi hne => by
    obtain ⟨f, hf⟩ := h.all i hi
    exact ⟨f, by rw [hget, if_neg hne]; exact hf⟩
  have hlow : ∀ i, i < n → i ≠ j → i < k := fun i hi hne => by
    apply Classical.byContradiction
    intro hc
    obtain ⟨f, hf⟩ := hsome i hi hne
    rw [hk.free i (by omega) (by rw [List.length_set, h.len]; exact hi)] at hf
    cases hf
  have htk : ∀ i, i < k → ((L.set j none).take k)[i]? = (L.set j none)[i]? := fun i hi => by rw [List.getElem?_take, if_pos hi]
  have hlen : ((L.set j none).take k).length = k := by rw [List.length_take, List.length_set, h.len]; omega
  have hjk : j ≤ k := by
    rcases Nat.eq_zero_or_pos j with h0 | h0
    · omega
    · have := hlow (j - 1) (by omega) (by omega); omega
  refine ⟨hj, ?_, ?_, ?_, ?_⟩
  · refine nextL_eq (fun i hi => ?_) (by rw [hlen]; exact hjk) (fun hlt => ?_)
    · obtain ⟨f, hf⟩ := hsome i (by omega) (by omega)
      exact ⟨_, by rw [htk i (by omega)]; exact hf⟩
    · rw [hlen] at hlt
      rw [htk j hlt, hget, if_pos rfl]
  · rw [hlen]
    by_cases he : j + 1 = n
    · omega
    · have := hlow (n - 1) (by omega) (by omega)
      omega
  · rw [hk.tot]
    obtain ⟨f, hf⟩ := h.all j hj
    have := tot_set L j none _ hf
    have e := h.tot
    simp only [osz] at this
    omega
  · intro i hi hne
    obtain ⟨f, hf⟩ := hsome i hi hne
    exact ⟨f, by rw [htk i (hlow i hi hne)]; exact hf⟩
theorem Row.used (h : Row v n L) : usedL L = n := by
  unfold usedL
  rw [List.filter_eq_self.2, h.len]
  intro o ho
  obtain ⟨i, hi, rfl⟩ := List.getElem_of_mem ho
  obtain ⟨f, hf⟩ := h.all i (by rw [← h.len]; exact hi)
  rw [List.getElem?_eq_getElem hi] at hf
  injection hf with hf
  rw [hf]
  rfl
theorem Row.at_ (h : Row v n L) {j : Nat} (hj : j < n) : ∃ f, atL L (j : Int) = some (v, f) := by
  obtain ⟨f, hf⟩ := h.all j hj
  refine ⟨f, ?_⟩
  unfold atL
  rw [if_neg (by omega), show ((j : Nat) : Int).toNat = j by omega, hf]
  rfl
end
/-- the page of n such versions -/
def Rp (w : World) (P : Nat) (v : Ver) (n : Nat) : Prop := ∃ L st, Hp w P L st ∧ Row v n L
def Ho (w : World) (P : Nat) (v : Ver) (n j : Nat) : Prop := ∃ L st, Hp w P L st ∧ Hole v n j L
section
variable {w w' : World} {P n j c : Nat} {v : Ver} {A : Option Addr}
theorem Rp.lt (h : Rp w P v n) : P < w.heap.size := by obtain ⟨L, st, h, _⟩ := h; exact h.lt
theorem Ho.lt (h : Ho w P v n j) : P < w.heap.size := by obtain ⟨L, st, h, _⟩ := h; exact h.lt
theorem Rp.keep (h : Rp w P v n) (hk : w'.heap[P]? = w.heap[P]?) : Rp w' P v n := by obtain ⟨L, st, h, r⟩ := h; exact ⟨L, st, h.keep hk, r⟩
theorem Ho.keep (h : Ho w P v n j) (hk : w'.heap[P]? = w.heap[P]?) : Ho w' P v n j := by obtain ⟨L, st, h, r⟩ := h; exact ⟨L, st, h.keep hk, r⟩
theorem rp_new (v : Ver) (w : World) : Calls Try.prog 15 #[] w fun e w' => e = .returned (.pointer (some ⟨w.heap.size, 0, none⟩)) ∧ Rp w' w.heap.size v 0 ∧ Below w.heap.size w w' :=
  (new_has w).mono fun e w' ⟨h1, h2, h3⟩ => ⟨h1, ⟨_, _, h2, Row.nil⟩, h3⟩
theorem rp_insert (h : Rp w P v n) (hv : v.ok) (hs : Sl w w.heap.size 1 A v.d.length c (u8s v.d)) (hfit : (n + 1) * (v.sz + 4) ≤ 508) :
    Calls Try.prog 34 #[.pointer (some ⟨P, 0, none⟩), tupV v (.slice A v.d.length c)] w fun e w' => e = .returned (.tuple #[.int .i64 n, .int .i64 0]) ∧ Rp w' P v (n + 1) ∧ Only P w w' := by
  obtain ⟨L, st, h, r⟩ := h
  have hz : v.sz = 30 + v.d.length := rfl
  have e : (n + 1) * (v.sz + 4) = n * v.sz + v.sz + 4 * n + 4 := by rw [Nat.add_mul, Nat.mul_add]; omega
  refine (insert_has P _ c A v L st w h hv rfl hs (by rw [r.room]; omega)).mono ?_
  rintro e w' ⟨rfl, h2, h3⟩
  rw [r.next]
  exact ⟨rfl, ⟨_, _, h2, r.ins st⟩, h3⟩
theorem rp_full (h : Rp w P v n) (hv : v.ok) (hs : Sl w w.heap.size 1 A v.d.length c (u8s v.d)) (hfit : 508 < (n + 1) * (v.sz + 4)) :
    Calls Try.prog 34 #[.pointer (some ⟨P, 0, none⟩), tupV v (.slice A v.d.length c)] w fun e w' => e = .returned (.tuple #[.int .i64 0, .int .i64 12]) ∧ Below w.heap.size w w' := by
  obtain ⟨L, st, h, r⟩ := h
  have hz : v.sz = 30 + v.d.length := rfl
  have e : (n + 1) * (v.sz + 4) = n * v.sz + v.sz + 4 * n + 4 := by rw [Nat.add_mul, Nat.mul_add]; omega
  exact insert_has_full P _ c A v L st w h hv rfl hs (by rw [r.room]; omega)
theorem rp_free (h : Rp w P v n) (hj : j < n) :
    Calls Try.prog 35 #[.pointer (some ⟨P, 0, none⟩), .int .i64 j] w fun e w' => e = .returned (.int .i64 0) ∧ Ho w' P v n j ∧ Only P w w' := by
  obtain ⟨L, st, h, r⟩ := h
  obtain ⟨f, hf⟩ := r.at_ hj
  refine (free_has P L st j v f w h hf).mono ?_
  rintro e w' ⟨rfl, k, hk, hp, ho⟩
  exact ⟨rfl, ⟨_, _, hp, r.hole hj hk⟩, ho⟩
theorem ho_insert (h : Ho w P v n j) (hv : v.ok) (hs : Sl w w.heap.size 1 A v.d.length c (u8s v.d)) (hfit : n * (v.sz + 4) ≤ 508) :
    Calls Try.prog 34 #[.pointer (some ⟨P, 0, none⟩), tupV v (.slice A v.d.length c)] w fun e w' => e = .returned (.tuple #[.int .i64 j, .int .i64 0]) ∧ Rp w' P v n ∧ Only P w w' := by
  obtain ⟨L, st, h, r⟩ := h
  have hz : v.sz = 30 + v.d.length := rfl
  have e : n * (v.sz + 4) = n * v.sz + 4 * n := by rw [Nat.mul_add]; omega
  have hlt := r.lt
  have ht := r.tot
  refine (insert_has P _ c A v L st w h hv rfl hs (by rw [r.room]; omega)).mono ?_
  rintro e w' ⟨rfl, h2, h3⟩
  rw [r.next]
  exact ⟨rfl, ⟨_, _, h2, r.ins st⟩, h3⟩
theorem rp_used (h : Rp w P v n) : Calls Try.prog 23 #[.pointer (some ⟨P, 0, none⟩)] w fun e w' => e = .returned (.int .i64 n) ∧ ∃ m, w' = w.drewN m := by
  obtain ⟨L, st, h, r⟩ := h
  have := used_has P L st w h
  rwa [r.used] at this
end
end Go.Proofs.Ytbkdbnkakjogjaa.Mem
/- PageStays: versions kept aside; what stays where one slot turns. -/
namespace Go.Proofs.Ytbkdbnkakjogjaa.Mem
open Go.RowKit Go.Proofs.Ytbkdbnkakjogjaa.Nums
set_option linter.unusedVariables false
set_option linter.unusedSimpArgs false
set_option maxRecDepth 100000
set_option maxHeartbeats 1000000
/-- the version of a slot -/
def verO (L : SL) (i : Int) : Option Ver := (atL L i).map Prod.fst
theorem verO_nat (L : SL) (i : Nat) : verO L (i : Int) = (L[i]?).join.map Prod.fst := by
  unfold verO atL
  rw [if_neg (by omega), show ((i : Nat) : Int).toNat = i by omega]
theorem verO_ins {L : SL} {st : Nat} {v : Ver} {i : Nat} (h : i ≠ nextL L) : verO (insS L st v).1 (i : Int) = verO L (i : Int) := by
  rw [verO_nat, verO_nat]
  have key : ∀ M : SL, nextL L ≤ M.length → (∀ x, (putL M (nextL L) x)[i]? = M[i]?) := fun M hM x => by rw [putL_get hM, if_neg h]
  unfold insS
  split
  · show ((putL _ _ _)[i]?).join.map Prod.fst = _
    rw [key _ (by rw [packL_len]; exact nextL_le L), packL_get]
    cases L[i]? with
    | none => rfl
    | some o => cases o <;> rfl
  · show ((putL _ _ _)[i]?).join.map Prod.fst = _
    rw [key _ (nextL_le L)]
theorem verO_new (L : SL) (st : Nat) (v : Ver) : verO (insS L st v).1 (nextL L : Int) = some v := by
  rw [verO_nat]
  obtain ⟨f, hf⟩ := insS_new L st v
  rw [hf]
  rfl
theorem verO_stamp {L : SL} {i : Nat} {j U : Int} {b : Nat} {p s : Int} (h : (i : Int) ≠ j) : verO (stampR L j b p s).2 (i : Int) = verO L (i : Int) := by
  unfold stampR
  split
  · cases ha : atL L j with
    | none => rfl
    | some x =>
      obtain ⟨k, rfl, hk⟩ := atL_some ha
      rw [verO_nat, verO_nat]
      show ((L.set k _)[i]?).join.map Prod.fst = _
      rw [set_get (List.getElem?_eq_some_iff.1 hk).1, if_neg (by omega)]
  · rfl
theorem verO_free {L L' : SL} {i : Nat} {j x : Int} (hf : FreeTo L j x L') (h : (i : Int) ≠ j) : verO L' (i : Int) = verO L (i : Int) := by
  rcases hf with ⟨_, _, rfl⟩ | ⟨v, f, k, h1, rfl, h3, rfl⟩
  · rfl
  · obtain ⟨q, rfl, hq⟩ := atL_some h1
    have hql := (List.getElem?_eq_some_iff.1 hq).1
    have h3' : IsTrim (L.set q none) k := h3
    rw [verO_nat, verO_nat]
    show (((L.set q none).take k)[i]?).join.map Prod.fst = _
    have hs : (L.set q none)[i]? = L[i]? := by rw [set_get hql, if_neg (by omega)]
    rw [List.getElem?_take]
    split
    · rw [hs]
    · by_cases hl : i < L.length
      · have := h3'.free i (by omega) (by rw [List.length_set]; exact hl)
        rw [← hs, this]
        rfl
      · rw [List.getElem?_eq_none (by omega)]
theorem flat_len {α : Type} (f : α → List Value) (n : Nat) (hf : ∀ a, (f a).length = n) : ∀ l : List α, (l.flatMap f).length = l.length * n
  | [] => by simp
  | a :: l => by
    show (f a ++ l.flatMap f).length = _
    rw [List.length_append, hf, flat_len f n hf l, List.length_cons, Nat.add_mul]
    omega
theorem flat_at {α : Type} (f : α → List Value) (n : Nat) (hf : ∀ a, (f a).length = n) : ∀ (l : List α) (i : Nat) (a : α), l[i]? = some a → ∀ j, j < n → (l.flatMap f)[i * n + j]? = (f a)[j]?
  | [], i, a, h, j, hj => by simp at h
  | y :: l, 0, a, h, j, hj => by
    simp at h; subst h
    show (f y ++ l.flatMap f)[0 * n + j]? = _
    rw [Nat.zero_mul, Nat.zero_add, List.getElem?_append_left (by rw [hf]; exact hj)]
  | y :: l, i + 1, a, h, j, hj => by
    show (f y ++ l.flatMap f)[(i + 1) * n + j]? = _
    rw [List.getElem?_append_right (by rw [hf, Nat.add_mul]; omega), hf, show (i + 1) * n + j - n = i * n + j by rw [Nat.add_mul]; omega]
    exact flat_at f n hf l i a (by simpa using h) j hj
abbrev Wt := Option Ver × Value
def wtC : Wt → List Value
  | (none, _) => [.int .u64 0, .int .u64 0, .int .u64 0, .int .i64 0, .int .i64 0, .slice none 0 0]
  | (some v, u) => [.int .u64 v.r, .int .u64 v.a, .int .u64 v.b, .int .i64 ((v.p : Int) - 1), .int .i64 ((v.s : Int) - 1), u]
theorem wtC_len (e : Wt) : (wtC e).length = 6 := by
  obtain ⟨o, u⟩ := e
  cases o <;> rfl
def wts (l : List Wt) : List Value := l.flatMap wtC
def bls (l : List Wt) : List Value := l.map fun e => .bool e.1.isSome
theorem wts_app (l : List Wt) (e : Wt) : wts (l ++ [e]) = wts l ++ wtC e := by simp [wts]
theorem bls_app (l : List Wt) (e : Wt) : bls (l ++ [e]) = bls l ++ [.bool e.1.isSome] := by simp [bls]
theorem infoTup : (Try.prog.info? 33).map (fun i => (i.zero, i.size, i.bytes)) = some (some zeroT, 6, 64) := by kernel_rfl
theorem infoBool : (Try.prog.info? 4).map (fun i => (i.zero, i.size, i.bytes)) = some (some (.bool false), 1, 1) := by kernel_rfl
section
variable {w : World} {ops : Array Oper} {rest : List Oper} {o : Oper} {a : Act} {Q : Exit → Act → World → Prop}
theorem wpl_app_tup (hgd : o.guard = none) (s x : Operand)
    (ho : o.op = .call { callee := .builtin .append, args := #[s, x], argTypes := #[64, 64] })
    (base : Nat) (v : Value) (n : Nat) (xs : List Value) (hs : a.eval s = v) (hown : w.ownsRow base 33 6 v n xs)
    (B : Nat) (y : Value) (m : Nat) (news : List Value) (hy : a.eval x = y) (hx : Lies w B 6 y m news) (h1 : ∀ u ∈ news, u.oneCell' = true)
    (hbytes : n + m ≤ 1000000) (hbase : base ≤ w.heap.size)
    (h : ∀ v' w', w'.ownsRow base 33 6 v' (n + m) (xs ++ news) → Kin w w' v v' → wpList Try.prog ops Q rest (a.put o.dst v') w') : wpList Try.prog ops Q (o :: rest) a w := by
  obtain ⟨i, hi, hz0, hz1, hz2⟩ := info_part infoTup
  exact wpList_plain hgd fun _ hK => wp_append_mem w s x _ ho base 33 i _ 6 64 Try.underlying64 hi hz0 hz1 hz2 rfl (by omega) v n xs hs hown B y m news hy hx h1 (by unfold maxLen; omega) (by omega) hbase fun v' w' h2 h3 => hK _ _ (h v' w' h2 h3)
theorem wpl_app_bool (hgd : o.guard = none) (s x : Operand)
    (ho : o.op = .call { callee := .builtin .append, args := #[s, x], argTypes := #[65, 65] })
    (base : Nat) (v : Value) (n : Nat) (xs : List Value) (hs : a.eval s = v) (hown : w.ownsRow base 4 1 v n xs)
    (B : Nat) (y : Value) (m : Nat) (news : List Value) (hy : a.eval x = y) (hx : Lies w B 1 y m news) (h1 : ∀ u ∈ news, u.oneCell' = true)
    (hbytes : n + m ≤ 1000000) (hbase : base ≤ w.heap.size)
    (h : ∀ v' w', w'.ownsRow base 4 1 v' (n + m) (xs ++ news) → Kin w w' v v' → wpList Try.prog ops Q rest (a.put o.dst v') w') : wpList Try.prog ops Q (o :: rest) a w := by
  obtain ⟨i, hi, hz0, hz1, hz2⟩ := info_part infoBool
  exact wpList_plain hgd fun _ hK => wp_append_mem w s x _ ho base 4 i _ 1 1 Try.underlying65 hi hz0 hz1 hz2 rfl (by omega) v n xs hs hown B y m news hy hx h1 (by unfold maxLen; omega) (by omega) hbase fun v' w' h2 h3 => hK _ _ (h v' w' h2 h3)
end
/-- what is kept aside: versions, whether they were there; L: the slots that they are of -/
structure SI (w wl : World) (P : Nat) (L : SL) (l : List Wt) (Aw : Option Addr) (cw : Nat) (At : Option Addr) (ct : Nat) : Prop where
  pg : ∃ X, Pg wl P X
  was : wl.ownsRow w.heap.size 33 6 (.slice Aw l.length cw) l.length (wts l)
  the : wl.ownsRow w.heap.size 4 1 (.slice At l.length ct) l.length (bls l)
  dat : ∀ (i : Nat) (v : Ver) (u : Value), l[i]? = some (some v, u) → wl.ownsRow w.heap.size 5 1 u v.d.length (u8s v.d)
  is : ∀ (i : Nat) (e : Wt), l[i]? = some e → e.1 = verO L (i : Int)
  bel : Below w.heap.size w wl
  ge : w.heap.size ≤ P
section
variable {w wl w' : World} {P : Nat} {L : SL} {l : List Wt} {Aw At : Option Addr} {cw ct : Nat}
theorem SI.below (h : SI w wl P L l Aw cw At ct) (hb : Below wl.heap.size wl w') : SI w w' P L l Aw cw At ct := by
  obtain ⟨X, hX⟩ := h.pg
  have k : ∀ {e : TypeId} {sz n : Nat} {v : Value} {xs : List Value}, wl.ownsRow w.heap.size e sz v n xs → w'.ownsRow w.heap.size e sz v n xs := fun hv => own_keep hv fun k hk => hb.block k (hv.lt k hk).2
  exact ⟨⟨X, Blk.below hX.1 hb (Blk.lt hX.1), hX.2⟩, k h.was, k h.the, fun i v u hu => k (h.dat i v u hu), h.is, h.bel.trans (hb.mono h.bel.size), h.ge⟩
/-- the page alone has turned -/
theorem SI.only (h : SI w wl P L l Aw cw At ct) (ho : Only P wl w') (hp : ∃ X, Pg w' P X) : SI w w' P L l Aw cw At ct := by
  obtain ⟨X, hX⟩ := h.pg
  have k : ∀ {e : TypeId} {sz n : Nat} {v : Value} {xs : List Value}, e ≠ 113 → wl.ownsRow w.heap.size e sz v n xs → w'.ownsRow w.heap.size e sz v n xs := fun hne hv => own_keep hv fun k hk => ho.block k (hv.lt k hk).2 (fun e => own_blk_ne hv hX.1 hne (by rw [hk, e]))
  exact ⟨hp, k (by decide) h.was, k (by decide) h.the, fun i v u hu => k (by decide) (h.dat i v u hu), h.is, h.bel.trans (ho.below h.bel.size h.ge), h.ge⟩
/-- a block of which it is known that it turns: the own one of a slice of elements e -/
theorem kin_keep {e e2 : TypeId} {sz sz2 n n2 B B2 : Nat} {v v' u : Value} {xs ys : List Value} (hk : Kin wl w' v v') (hv : wl.ownsRow B e sz v n xs) (hu : wl.ownsRow B2 e2 sz2 u n2 ys) (hne : e2 ≠ e) : w'.ownsRow B2 e2 sz2 u n2 ys :=
  own_keep hu fun k hk2 => hk.1.block k (hu.lt k hk2).2 (fun hv2 => by
    rcases hv.2 with ⟨q1, _⟩ | ⟨g, cap, cur, q1, _, q3, _⟩
    · rw [q1] at hv2; simp [Value.ownBlock] at hv2
    · rw [q1] at hv2
      have : g = k ∨ k = g := by simp [Value.ownBlock] at hv2; first | exact .inl hv2 | exact .inr hv2
      rcases this with rfl | rfl
      · exact own_blk_ne hu q3 hne hk2
      · exact own_blk_ne hu q3 hne hk2)
theorem kin_pg {e : TypeId} {sz n B : Nat} {v v' : Value} {xs : List Value} {X : List UInt8} (hk : Kin wl w' v v') (hv : wl.ownsRow B e sz v n xs) (hp : Pg wl P X) (hne : e ≠ 113) : Pg w' P X :=
  ⟨(hk.1.block P (Blk.lt hp.1) (Ne.symm (own_blk_ne hv hp.1 hne))).trans hp.1, hp.2⟩
/-- one more kept aside -/
theorem SI.more {w2 : World} (h : SI w wl P L l Aw cw At ct) {e : Wt} {Aw' At' : Option Addr} {cw' ct' : Nat} (he : e.1 = verO L (l.length : Int)) (hd : ∀ v u, e = (some v, u) → wl.ownsRow w.heap.size 5 1 u v.d.length (u8s v.d))
    {o1 o2 : Obj} {w1 w3 : World} (h1 : w1 = wl.alloc o1)
    (hw : w2.ownsRow w.heap.size 33 6 (.slice Aw' (l.length + 1) cw') (l.length + 1) (wts l ++ wtC e)) (hk1 : Kin w1 w2 (.slice Aw l.length cw) (.slice Aw' (l.length + 1) cw'))
    (h3 : w3 = w2.alloc o2) (ht : w'.ownsRow w.heap.size 4 1 (.slice At' (l.length + 1) ct') (l.length + 1) (bls l ++ [.bool e.1.isSome])) (hk2 : Kin w3 w' (.slice At l.length ct) (.slice At' (l.length + 1) ct')) :
    SI w w' P L (l ++ [e]) Aw' cw' At' ct' := by
  obtain ⟨X, hX⟩ := h.pg
  have a1 : Below wl.heap.size wl w1 := by rw [h1]; exact bel_alloc _ _
  have s1 := h.below a1
  have hl : (l ++ [e]).length = l.length + 1 := by simp
  have hX1 : Pg w1 P X := ⟨Blk.below hX.1 a1 (Blk.lt hX.1), hX.2⟩
  have hX2 := kin_pg hk1 s1.was hX1 (by decide)
  have the2 := kin_keep hk1 s1.was s1.the (by decide)
  have a3 : Below w2.heap.size w2 w3 := by rw [h3]; exact bel_alloc _ _
  have k3 : ∀ {e : TypeId} {sz n : Nat} {v : Value} {xs : List Value}, w2.ownsRow w.heap.size e sz v n xs → w3.ownsRow w.heap.size e sz v n xs := fun hv => own_keep hv fun k hk => a3.block k (hv.lt k hk).2
  have hX3 : Pg w3 P X := ⟨Blk.below hX2.1 a3 (Blk.lt hX2.1), hX2.2⟩
  have hbel1 : Below w.heap.size w w2 := s1.bel.trans (hk1.below s1.bel.size (fun k hk => (s1.was.lt k hk).1))
  have hbel3 : Below w.heap.size w w3 := hbel1.trans (a3.mono hbel1.size)
  refine ⟨⟨X, kin_pg hk2 (k3 the2) hX3 (by decide)⟩, ?_, ?_, fun i v u hu => ?_, fun i e' hu => ?_, hbel3.trans (hk2.below hbel3.size (fun k hk => ((k3 the2).lt k hk).1)), h.ge⟩
  · rw [hl, wts_app]
    exact kin_keep hk2 (k3 the2) (k3 hw) (by decide)
  · rw [hl, bls_app]
    exact ht
  · have hold : wl.ownsRow w.heap.size 5 1 u v.d.length (u8s v.d) := by
      by_cases hi : i < l.length
      · rw [List.getElem?_append_left hi] at hu
        exact h.dat i v u hu
      · rw [List.getElem?_append_right (by omega)] at hu
        cases hj : i - l.length with
        | zero => rw [hj] at hu; simp at hu; exact hd v u hu
        | succ k => rw [hj] at hu; simp at hu
    have q1 : w1.ownsRow w.heap.size 5 1 u v.d.length (u8s v.d) := own_keep hold fun k hk => a1.block k (hold.lt k hk).2
    exact kin_keep hk2 (k3 the2) (k3 (kin_keep hk1 s1.was q1 (by decide))) (by decide)
  · by_cases hi : i < l.length
    · rw [List.getElem?_append_left hi] at hu
      exact h.is i e' hu
    · rw [List.getElem?_append_right (by omega)] at hu
      cases hj : i - l.length with
      | zero =>
        rw [hj] at hu
        simp at hu
        subst hu
        rw [he, show l.length = i by omega]
      | succ k => rw [hj] at hu; simp at hu
/-- the six cells of one kept aside, and whether it was there -/
theorem SI.at_ (h : SI w wl P L l Aw cw At ct) {i : Nat} {e : Wt} (he : l[i]? = some e) : ∃ g g2, Aw = some ⟨g, 0, none⟩ ∧ At = some ⟨g2, 0, none⟩ ∧ (∀ j, j < 6 → wl.cell? ⟨g, i * 6 + j, none⟩ = (wtC e)[j]?) ∧ wl.cell? ⟨g2, i, none⟩ = some (.bool e.1.isSome) ∧ l.length ≤ cw ∧ l.length ≤ ct := by
  have hi := (List.getElem?_eq_some_iff.1 he).1
  rcases h.was.2 with ⟨_, h2⟩ | ⟨g, cap, cur, hv, hb, hg, hn, hm, hs, ht⟩
  · exact absurd h2 (by omega)
  rcases h.the.2 with ⟨_, h2⟩ | ⟨g2, cap2, cur2, hv2, hb2, hg2, hn2, hm2, hs2, ht2⟩
  · exact absurd h2 (by omega)
  injection hv with q1 _ q3
  injection hv2 with q4 _ q6
  subst q1 q3 q4 q6
  refine ⟨g, g2, rfl, rfl, fun j hj => ?_, ?_, hn, hn2⟩
  · have h1 := flat_at wtC 6 wtC_len l i e he j hj
    rw [Blk.cell (show Blk wl g _ cur from hg), ← h1]
    show _ = (wts l)[i * 6 + j]?
    rw [← ht, List.getElem?_take, if_pos (by omega), Array.getElem?_toList]
  · have h1 : (bls l)[i]? = some (.bool e.1.isSome) := by unfold bls; rw [List.getElem?_map, he]; rfl
    rw [Blk.cell (show Blk wl g2 _ cur2 from hg2), ← h1, ← ht2, List.getElem?_take, if_pos (by omega), Array.getElem?_toList]
end
end Go.Proofs.Ytbkdbnkakjogjaa.Mem
/- lapidaryref05: Used, few, lay. -/
namespace Go.Proofs.Ytbkdbnkakjogjaa.Mem
open Go.RowKit Go.Proofs.Ytbkdbnkakjogjaa.Nums
set_option linter.unusedVariables false
set_option linter.unusedSimpArgs false
set_option maxRecDepth 100000
set_option maxHeartbeats 1000000
theorem rused_nil (w : World) : Calls Try.prog 24 #[.pointer none] w fun e w' => e = .returned (.int .i64 0) ∧ w = w' := by
  go_enter Try.func24, Try.ntmps24
  go_wp2_with fail
  go_ret
  exact ⟨rfl, rfl⟩
theorem usedL_le (L : SL) (k : Nat) : usedL (L.take k) ≤ k := by
  unfold usedL
  exact Nat.le_trans (List.length_filter_le _ _) (by rw [List.length_take]; omega)
theorem usedL_succ {L : SL} {k : Nat} {o : Option (Ver × Nat)} (h : L[k]? = some o) : usedL (L.take (k + 1)) = usedL (L.take k) + (if o.isSome then 1 else 0) := by
  rw [take_succ_of h, usedL_snoc]
theorem rused_any {w : World} {F : Nat → Prop} {R st c : Nat} {E : List Ent} {A : Option Addr} (h : RfA w F R E st A c) (hl : E.length ≤ 128) :
    Calls Try.prog 24 #[.pointer (some ⟨R, 0, none⟩)] w fun e w' => e = .returned (.int .i64 (usedL (E.map Prod.fst))) ∧ Below w.heap.size w w' := by
  have H := Lib.hid h
  have x0 := h.blk.cell 0
  have x1 := h.blk.cell 1
  have hle := h.le
  unfold maxLen at hle
  obtain ⟨L, hL⟩ : ∃ L, E.map Prod.fst = L := ⟨_, rfl⟩
  have hLl : L.length = E.length := by rw [← hL, List.length_map]
  have HLL := Lib.hid hL
  rw [hL]
  clear h hL
  go_enter Try.func24, Try.ntmps24
  go_wp2_with fail
  clear x0 x1
  go_loopw [3, 13] (fun nv i wr => ∃ k : Nat, k ≤ E.length ∧ i = .int .i64 k ∧ nv = .int .i64 (usedL (L.take k) : Nat) ∧ Below w.heap.size w wr) (fun _ i _ => E.length - (intOf i).toNat)
  case atStart => exact ⟨0, by omega, rfl, by simp [usedL], Below.refl _ _⟩
  case round =>
    obtain ⟨k, hk, rfl, rfl, hb⟩ := hrel
    have HB := Lib.hid hb
    have HK := Lib.hid (H.out.below hb)
    have huk := usedL_le L k
    by_cases hlt : k < E.length
    · have hlt' : (k : Int) < E.length := by omega
      obtain ⟨⟨o, u⟩, he⟩ : ∃ e, E[k]? = some e := ⟨_, List.getElem?_eq_getElem hlt⟩
      obtain ⟨g, cur, rfl, _, _, _, _⟩ := HK.out.arr hlt
      have HT := Lib.hid (usedL_succ (L := L) (k := k) (o := o) (by rw [← HLL.out]; exact map_at he))
      cases o with
      | none =>
        obtain ⟨y0, y1, y2, y3, y4, y5, y6, y7⟩ := HK.out.free8 he rfl
        go_wp2_with fail
        go_roundw
        case rel => exact ⟨k + 1, by omega, by go_num, by rw [HT.out]; simp, HB.out.trans ((bel_alloc _ _).mono HB.out.size)⟩
        case measure => simp [intOf]; omega
      | some x =>
        obtain ⟨v, f⟩ := x
        obtain ⟨A', c', rfl, hsl⟩ := Sl.of_own (H.out.data k v f u he).1
        obtain ⟨y0, y1, y2, y3, y4, y5, y6, y7⟩ := HK.out.full8 he rfl
        go_wp2_with fail
        go_roundw
        case rel => exact ⟨k + 1, by omega, by go_num, by rw [HT.out]; first | (simp; done) | (simp; go_num), HB.out.trans ((bel_alloc _ _).mono HB.out.size)⟩
        case measure => simp [intOf]; omega
    · obtain rfl : k = E.length := by omega
      rw [← hLl, List.take_length]
      go_wp2_with fail
      go_ret
      exact ⟨rfl, HB.out⟩
/-- lay: bytes laid over a block's -/
theorem rlay_any (g : Nat) (t : TypeId) (X b : List UInt8) (at_ m c n cb : Nat) (Ab : Option Addr) (w : World) (hb : BB w g t X) (hX : X.length = m) (hc : m ≤ c) (hcm : c ≤ maxLen) (hs : Sl w w.heap.size 1 Ab n cb (u8s b)) (hne : ∀ ad, Ab = some ad → 0 < n → ad.block ≠ g) (hfit : at_ + n ≤ m) (hm : m ≤ 100000) :
    Calls Try.prog 66 #[.slice (some ⟨g, 0, none⟩) m c, .int .i64 at_, .slice Ab n cb] w fun e w' => e = .returned (.tuple #[]) ∧ BB w' g t (lay X at_ b) ∧ Only g w w' := by
  have HB := Lib.hid hb
  have HS := Lib.hid hs
  have HX := Lib.hid hX
  have HNE := Lib.hid hne
  have HN := Lib.hid (len_of hs)
  unfold maxLen at hcm
  have hcb := hs.cap
  unfold maxLen at hcb
  have hle := hs.le
  clear hb hs hX hne
  go_enter Try.func66, Try.ntmps66
  go_wp2_with fail
  go_loopw [10] (fun i wr => ∃ k : Nat, k ≤ n ∧ i = .int .i64 k ∧ BB wr g t (lay X at_ (b.take k)) ∧ Only g w wr) (fun i _ => n - (intOf i).toNat)
  case atStart => exact ⟨0, by omega, rfl, by rw [List.take_zero, lay_nil]; exact HB.out, Only.refl _ _⟩
  case round =>
    obtain ⟨k, hk, rfl, hbk, ho⟩ := hrel
    have HK := Lib.hid hbk
    have HO := Lib.hid ho
    clear hbk ho
    by_cases hlt : k < n
    · have hlt' : (k : Int) < n := by omega
      obtain ⟨y, hy⟩ : ∃ y, b[k]? = some y := ⟨_, List.getElem?_eq_getElem (by rw [HN.out]; exact hlt)⟩
      obtain ⟨ad, rfl, hAt⟩ := HS.out.at_ (by omega)
      have y0 : wr.cell? (ad.add k) = some (.int .u8 (y.toNat : Int)) := HO.out.cell (by rw [add_block]; exact hAt.1) (by rw [add_block]; exact HNE.out ad rfl (by omega)) (u8s_at hAt hy)
      have hl : (b.take k).length = k := by rw [List.length_take, HN.out]; omega
      have hll := lay_len (X := X) (b := b.take k) (a := at_) (by rw [hl, HX.out]; omega)
      obtain ⟨z, hz⟩ : ∃ z, (lay X at_ (b.take k))[at_ + k]? = some z := ⟨_, List.getElem?_eq_getElem (by rw [hll, HX.out]; omega)⟩
      have z0 := HK.out.cell hz
      have f0 := HK.out.frozen (at_ + k)
      have HP := Lib.hid (HK.out.put (at_ + k) y)
      have HL := Lib.hid (lay_set (X := X) (b := b.take k) (a := at_) (by rw [hl, HX.out]; omega) y)
      rw [hl, ← take_succ_of hy] at HL
      rw [HL.out] at HP
      have k1 : (0 : Int) ≤ (at_ : Int) + k := by omega
      have k2 : (at_ : Int) + k < m := by omega
      have k3 : ((at_ : Int) + k).toNat = at_ + k := by omega
      have k4 : at_ + k < m := by omega
      clear hy hz hAt hll hl
      go_wp2_with fail
      go_roundw
      case rel => exact ⟨k + 1, by omega, by go_num, HP.out, HO.out.set_ _ _⟩
      case measure => simp [intOf]; omega
    · obtain rfl : k = n := by omega
      rw [List.take_of_length_le (by rw [HN.out]; omega)] at HK
      go_wp2_with fail
      exact bodyPost_end (v := .tuple #[]) (by simp [results, Try.results66, go_sem]) rfl ⟨rfl, HK.out, HO.out⟩
/-- few: a number's lowest bytes -/
theorem few_rec (U k : Nat) : UInt8.ofNat (U / 2 ^ (8 * k) % 256) = UInt8.ofNat (U / 2 ^ (8 * k)) := by
  apply UInt8.toNat_inj.1
  rw [UInt8.toNat_ofNat', UInt8.toNat_ofNat']
  omega
theorem rfew_any (U m : Nat) (w : World) (hU : U < 18446744073709551616) (hm : m ≤ 8) :
    Calls Try.prog 67 #[.int .u64 U, .int .i64 m] w fun e w' => ∃ v, e = .returned v ∧ OwnB w' w.heap.size v m (u8s (nb U m)) ∧ Below w.heap.size w w' := by
  go_enter Try.func67, Try.ntmps67
  go_wp2_with fail
  go_loopw [0, 5, 7] (fun uv ov i wr => ∃ k : Nat, k ≤ m ∧ i = .int .i64 k ∧ uv = .int .u64 (U / 2 ^ (8 * k) : Nat) ∧ OwnB wr w.heap.size ov k (u8s (nb U k)) ∧ Below w.heap.size w wr) (fun _ _ i _ => m - (intOf i).toNat)
  case atStart => exact ⟨0, by omega, rfl, by simp, World.ownsRow_nil _ _ _ _, Below.refl _ _⟩
  case round =>
    obtain ⟨k, hk, rfl, rfl, ho, hb⟩ := hrel
    have HO := Lib.hid ho
    have HB := Lib.hid hb
    obtain ⟨A1, c1, rfl, _⟩ := Sl.of_own ho
    clear ho hb
    by_cases hlt : k < m
    · have hlt' : (k : Int) < m := by omega
      obtain ⟨V, hV⟩ : ∃ V, U / 2 ^ (8 * k) = V := ⟨_, rfl⟩
      have hVb : V < 18446744073709551616 := by rw [← hV]; exact Nat.lt_of_le_of_lt (Nat.div_le_self _ _) hU
      have HV2 : Hid (U / 2 ^ (8 * (k + 1)) = V / 256) := Lib.hid (by rw [← hV, Nat.div_div_eq_div_mul, show 8 * (k + 1) = 8 * k + 8 by omega, Nat.pow_add])
      have HNB : Hid (nb U (k + 1) = nb U k ++ [UInt8.ofNat (V % 256)]) := Lib.hid (by rw [nb_succ, ← hV, few_rec])
      have hd : ((V : Int) / 256) = ((V / 256 : Nat) : Int) := by omega
      have hr : (V : Int) % 256 = ((V % 256 : Nat) : Int) := by omega
      have hq : Int.tdiv (V : Int) 256 = ((V / 256 : Nat) : Int) := (Int.ofNat_tdiv V 256).symm
      have hq2 : Int.tmod (V : Int) 256 = ((V % 256 : Nat) : Int) := (Int.ofNat_tmod V 256).symm
      have hby : IntKind.u8.wrap ((V % 256 : Nat) : Int) = ((UInt8.ofNat (V % 256)).toNat : Nat) := by
        rw [IntKind.wrap_u8, UInt8.toNat_ofNat']
        omega
      have hV0 : (0 : Int) ≤ V := by omega
      have hV1 : (V : Int) ≤ 18446744073709551615 := by omega
      have hwr : IntKind.u64.wrap ((V % 256 : Nat) : Int) = ((V % 256 : Nat) : Int) := by rw [IntKind.wrap_u64]; omega
      have hwq : IntKind.u64.wrap ((V / 256 : Nat) : Int) = ((V / 256 : Nat) : Int) := by rw [IntKind.wrap_u64]; omega
      have hcell : (#[Value.int .u8 ((V : Int) % 256)]).toList = u8s [UInt8.ofNat (V % 256)] := by
        show [Value.int .u8 ((V : Int) % 256)] = [Value.int .u8 ((UInt8.ofNat (V % 256)).toNat : Int)]
        rw [UInt8.toNat_ofNat', hr]
        congr 2
        omega
      have HLI : Hid (Lies (wr.alloc (.cells #[.int .u8 ((V : Int) % 256)] 5)) (wr.heap.size + 1) 1 (.slice (some ⟨wr.heap.size, 0, none⟩) 1 1) 1 (u8s [UInt8.ofNat (V % 256)])) := Lib.hid (by
        have hh := lies_lit wr #[.int .u8 ((V : Int) % 256)] 5 1 1 rfl
        rwa [hcell] at hh)
      rw [hV]
      clear hV hd hr hcell hby hwr hq2
      go_wp2_with (at_builtin; go_loud (refine wpl_app_b rfl (.tmp 9) (.tmp 13) rfl w.heap.size _ k (u8s (nb U k)) rfl (World.ownsRow.alloc HO.out _) _ _ 1 (u8s [UInt8.ofNat (V % 256)]) rfl HLI.out (u8s_one _) (by omega) (by rw [size_alloc]; have := HB.out.size; omega) ?_; intro v1 w9 hown1 hk1))
      have HO9 : Hid (OwnB w9 w.heap.size v1 (k + 1) (u8s (nb U (k + 1)))) := Lib.hid (own_eq hown1 rfl (by rw [HNB.out, u8s_app]))
      have HB9 : Hid (Below w.heap.size w w9) := Lib.hid (HB.out.trans (((bel_alloc wr (.cells #[.int .u8 ((V : Int) % 256)] 5)).mono HB.out.size).trans (hk1.below (by rw [size_alloc]; have := HB.out.size; omega) (fun g hg => (HO.out.lt g hg).1))))
      clear hown1 hk1
      go_wp2_with fail
      go_roundw
      case rel => exact ⟨k + 1, by omega, by go_num, by rw [HV2.out]; first | rfl | (congr 1; omega) | (simp; done), HO9.out, HB9.out⟩
      case measure => simp [intOf]; omega
    · obtain rfl : k = m := by omega
      go_wp2_with fail
      go_ret
      exact ⟨_, rfl, HO.out, HB.out⟩
end Go.Proofs.Ytbkdbnkakjogjaa.Mem
/- lapidaryref05.pack: a version's bytes. -/
namespace Go.Proofs.Ytbkdbnkakjogjaa.Mem
open Go.RowKit Go.Proofs.Ytbkdbnkakjogjaa.Nums
set_option linter.unusedVariables false
set_option linter.unusedSimpArgs false
set_option maxRecDepth 100000
set_option maxHeartbeats 1000000
theorem step_app_b {w : World} {ops : Array Oper} {o : Oper} {a : Act} {K : Act → World → Prop} {Q : Exit → Act → World → Prop} {E : Prop} (hgd : o.guard = none) (s x : Operand)
    (ho : o.op = .call { callee := .builtin .append, args := #[s, x], argTypes := #[31, 31] })
    (base : Nat) (v : Value) (n : Nat) (xs : List Value) (hs : a.eval s = v) (hown : OwnB w base v n xs)
    (B : Nat) (y : Value) (m : Nat) (news : List Value) (hy : a.eval x = y) (hx : Lies w B 1 y m news) (h1 : ∀ u ∈ news, u.oneCell' = true)
    (hbytes : n + m ≤ 1000000) (hbase : base ≤ w.heap.size)
    (h : ∀ v' w', OwnB w' base v' (n + m) (xs ++ news) → Kin w w' v v' → K (a.put o.dst v') w') :
    if Region.wanted o (yielded ops a.tmps) = true then Oper.wp Try.prog o a w K Q else E := by
  rw [if_pos (by simp [Region.wanted, hgd])]
  obtain ⟨i, hi, hz0, hz1, hz2⟩ := info_part info5
  exact wp_append_mem w s x _ ho base 5 i _ 1 1 Try.underlying31 hi hz0 hz1 hz2 rfl (by omega) v n xs hs hown B y m news hy hx h1 (by unfold maxLen; omega) (by omega) hbase h
theorem sl_own' {w : World} {B n c : Nat} {e : TypeId} {A : Option Addr} {xs : List Value} (h : w.ownsRow B e 1 (.slice A n c) n xs) : Sl w w.heap.size 1 A n c xs := by
  obtain ⟨A', c', hv, hs⟩ := Sl.of_own h
  injection hv with h1 _ h3
  subst h1 h3
  exact hs
theorem own_lies {w : World} {B n : Nat} {v : Value} {xs : List Value} (h : OwnB w B v n xs) : Lies w w.heap.size 1 v n xs := by
  obtain ⟨A, c, rfl, hs⟩ := Sl.of_own h
  exact hs.lies
/-- bytes so far, the version's box, the version's Data -/
structure PK (w wl : World) (b0 : Nat) (box : Array Value) (u : Value) (y : List UInt8) : Prop where
  own : OwnB wl (b0 + 1) u y.length (u8s y)
  box : Blk wl b0 33 box
  bel : Below b0 w wl
section
variable {w wl w' : World} {b0 : Nat} {box : Array Value} {u u' : Value} {y z : List UInt8}
theorem PK.below (h : PK w wl b0 box u y) (hb : Below wl.heap.size wl w') : PK w w' b0 box u y :=
  ⟨own_keep h.own fun k hk => hb.block k (h.own.lt k hk).2, Blk.below h.box hb (Blk.lt h.box), h.bel.trans (hb.mono (Nat.le_of_lt (Blk.lt h.box)))⟩
theorem PK.app (h : PK w wl b0 box u y) (ho : OwnB w' (b0 + 1) u' (y.length + z.length) (u8s y ++ u8s z)) (hk : Kin wl w' u u') : PK w w' b0 box u' (y ++ z) :=
  ⟨by rw [List.length_append, u8s_app]; exact ho, (hk.1.block b0 (Blk.lt h.box) (Ne.symm (own_blk_ne h.own h.box (by decide)))).trans h.box, h.bel.trans (hk.below (Nat.le_of_lt (Blk.lt h.box)) (fun g hg => by have := (h.own.lt g hg).1; omega))⟩
end
theorem rpack_any (v : Ver) (w : World) (Ad : Option Addr) (c : Nat) (hok : v.ok) (hs : Sl w w.heap.size 1 Ad v.d.length c (u8s v.d)) :
    Calls Try.prog 68 #[tupV v (.slice Ad v.d.length c)] w fun e w' => ∃ u, e = .returned u ∧ OwnB w' w.heap.size u v.sz (u8s v.bytes) ∧ Below w.heap.size w w' := by
  have hr := hok.r
  have ha := hok.a
  have hb := hok.b
  have hp := hok.p
  have hss := hok.s
  have hd := hok.d
  have HS := Lib.hid hs
  obtain ⟨n, hn⟩ : ∃ n, v.d.length = n := ⟨_, rfl⟩
  have HN := Lib.hid hn
  rw [hn] at hd HS ⊢
  unfold tupV
  obtain ⟨p, hpp⟩ : ∃ p : Int, (v.p : Int) - 1 = p := ⟨_, rfl⟩
  obtain ⟨s, hsp⟩ : ∃ s : Int, (v.s : Int) - 1 = s := ⟨_, rfl⟩
  have hp1 : p + 1 = v.p := by omega
  have hs1 : s + 1 = v.s := by omega
  rw [hpp, hsp]
  obtain ⟨b0, hb0⟩ : ∃ b0, w.heap.size = b0 := ⟨_, rfl⟩
  obtain ⟨W1, hW1⟩ : ∃ W1, w.alloc (.cells #[.int .u64 v.r, .int .u64 v.a, .int .u64 v.b, .int .i64 p, .int .i64 s, .slice Ad n c] 33) = W1 := ⟨_, rfl⟩
  have HBX : Hid (Blk W1 b0 33 #[.int .u64 v.r, .int .u64 v.a, .int .u64 v.b, .int .i64 p, .int .i64 s, .slice Ad n c]) := Lib.hid (by rw [← hW1, ← hb0]; exact Blk.new w _ _)
  have HB1 : Hid (Below b0 w W1) := Lib.hid (by rw [← hW1, ← hb0]; exact bel_alloc _ _)
  have HW1 := Lib.hid hW1
  have hlb := Blk.lt HBX.out
  have CR : Hid (∀ w0, Calls Try.prog 67 #[.int .u64 (v.r : Nat), .int .i64 8] w0 fun e w' => ∃ u, e = .returned u ∧ OwnB w' w0.heap.size u 8 (u8s (nb v.r 8)) ∧ Below w0.heap.size w0 w') := Lib.hid (fun w0 => rfew_any v.r 8 w0 (by omega) (by omega))
  have CA : Hid (∀ w0, Calls Try.prog 67 #[.int .u64 (v.a : Nat), .int .i64 8] w0 fun e w' => ∃ u, e = .returned u ∧ OwnB w' w0.heap.size u 8 (u8s (nb v.a 8)) ∧ Below w0.heap.size w0 w') := Lib.hid (fun w0 => rfew_any v.a 8 w0 (by omega) (by omega))
  have CB : Hid (∀ w0, Calls Try.prog 67 #[.int .u64 (v.b : Nat), .int .i64 8] w0 fun e w' => ∃ u, e = .returned u ∧ OwnB w' w0.heap.size u 8 (u8s (nb v.b 8)) ∧ Below w0.heap.size w0 w') := Lib.hid (fun w0 => rfew_any v.b 8 w0 (by omega) (by omega))
  have CP : Hid (∀ w0, Calls Try.prog 67 #[.int .u64 (v.p : Nat), .int .i64 4] w0 fun e w' => ∃ u, e = .returned u ∧ OwnB w' w0.heap.size u 4 (u8s (nb v.p 4)) ∧ Below w0.heap.size w0 w') := Lib.hid (fun w0 => rfew_any v.p 4 w0 (by omega) (by omega))
  have CS : Hid (∀ w0, Calls Try.prog 67 #[.int .u64 (v.s : Nat), .int .i64 2] w0 fun e w' => ∃ u, e = .returned u ∧ OwnB w' w0.heap.size u 2 (u8s (nb v.s 2)) ∧ Below w0.heap.size w0 w') := Lib.hid (fun w0 => rfew_any v.s 2 w0 (by omega) (by omega))
  clear hs hpp hsp hok hn hW1
  go_enter Try.func68, Try.ntmps68
  go_wp2_with fail
  rw [HW1.out]
  have x0 := HBX.out.cell 0
  have x1 := HBX.out.cell 1
  go_region_held3 (fun w' => w'.cell? ⟨b0, 0, none⟩ = some (.int .u64 v.r) ∧ w'.cell? ⟨b0, 1, none⟩ = some (.int .u64 v.a)) (first | go_keep | exact ⟨hk3.cell (h3x.cell 0) (own_blk_ne ho1' h3x (by decide)), hk3.cell (h3x.cell 1) (own_blk_ne ho1' h3x (by decide))⟩ | exact ⟨h3x.cell 0, h3x.cell 1⟩ | exact ⟨h2x.cell 0, h2x.cell 1⟩)
    (first
      | (go_at_call 67; have h2y := h2x; refine (CA.out _).mono ?_; rintro e w3 ⟨u2, rfl, ho2, hb2⟩; have h3x := Blk.below h2x hb2 (Blk.lt h2x); have ho1' : OwnB w3 W1.heap.size u1 8 (u8s (nb v.r 8)) := own_keep ho1 (fun k hk => hb2.block k (ho1.lt k hk).2); have hL2 : Lies w3 w3.heap.size 1 u2 8 (u8s (nb v.a 8)) := own_lies ho2; have hsz3 : W1.heap.size ≤ w3.heap.size := Nat.le_trans hb1.size hb2.size)
      | (go_at_call 67; refine (CR.out _).mono ?_; rintro e w2 ⟨u1, rfl, ho1, hb1⟩; have h2x := Blk.below (Blk.drew HBX.out) hb1 hlb)
      | (refine step_app_b rfl (.tmp 6) (.tmp 9) rfl W1.heap.size u1 8 (u8s (nb v.r 8)) rfl ho1' w3.heap.size u2 8 (u8s (nb v.a 8)) rfl hL2 (u8s_one _) ?_ hsz3 ?_; (omega); intro v3 w4 hown3 hk3))
  have h3 : PK w w3 b0 #[.int .u64 v.r, .int .u64 v.a, .int .u64 v.b, .int .i64 p, .int .i64 s, .slice Ad n c] u1 (nb v.r 8) := ⟨by rw [nb_len]; exact own_mono ho1' hlb, h3x, (HB1.out.drew.trans (hb1.mono (Nat.le_of_lt hlb))).trans (hb2.mono (Nat.le_of_lt (Blk.lt h2x)))⟩
  have h4 := h3.app (z := nb v.a 8) (u' := v3) (by rw [nb_len, nb_len]; exact own_mono hown3 hlb) hk3
  obtain ⟨y0, hy0⟩ : ∃ y, nb v.r 8 ++ nb v.a 8 = y := ⟨_, rfl⟩
  have hl0 : y0.length = 16 := by rw [← hy0, List.length_append, nb_len, nb_len]
  rw [hy0] at h4
  have HY0 := Lib.hid hy0
  have HK0 := Lib.hid h4
  obtain ⟨B0, d0, rfl, _⟩ := Sl.of_own h4.own
  clear h3 h4 hy0 hown3 hk3 ho1 hb1 ho2 hb2 h2x h3x ho1' hL2 hsz3 x0 x1
  have x2 := HK0.out.box.cell 2
  go_wp2_with fail
  clear x2
  refine (CB.out _).mono ?_
  rintro e w5 ⟨u5, rfl, ho5, hb5⟩
  obtain ⟨A5, c5, rfl, _⟩ := Sl.of_own ho5
  have HJ := Lib.hid (HK0.out.below hb5)
  rw [hl0] at HJ
  have hwn := HJ.out.own
  rw [hl0] at hwn
  have HWN := Lib.hid hwn
  clear hwn
  have HL5 := Lib.hid (sl_own' ho5).lies
  have hsz5 := Nat.le_of_lt (Blk.lt HJ.out.box)
  have hsz6 := Blk.lt HJ.out.box
  clear ho5 hb5
  go_upto_region 3 with (at_builtin; go_loud (refine wpl_app_b rfl (.tmp 11) (.tmp 14) rfl (b0 + 1) _ 16 (u8s y0) rfl HWN.out _ _ 8 (u8s (nb v.b 8)) rfl HL5.out (u8s_one _) (by omega) hsz6 ?_; intro v7 w7 hown7 hk7))
  have h7 := HJ.out.app (z := nb v.b 8) (u' := v7) (by rw [nb_len, hl0]; exact hown7) hk7
  obtain ⟨y1, hy1⟩ : ∃ y, y0 ++ nb v.b 8 = y := ⟨_, rfl⟩
  have hl1 : y1.length = 24 := by rw [← hy1, List.length_append, nb_len, hl0]
  rw [hy1] at h7
  have HY1 := Lib.hid hy1
  have HK1 := Lib.hid h7
  obtain ⟨B1, d1, rfl, _⟩ := Sl.of_own h7.own
  clear h7 hy1 hown7 hk7 HJ HL5 hsz5 hsz6
  have x3 := HK1.out.box.cell 3
  go_wp2_with fail
  clear x3
  refine (CP.out _).mono ?_
  rintro e w5 ⟨u5, rfl, ho5, hb5⟩
  obtain ⟨A5, c5, rfl, _⟩ := Sl.of_own ho5
  have HJ := Lib.hid (HK1.out.below hb5)
  rw [hl1] at HJ
  have hwn := HJ.out.own
  rw [hl1] at hwn
  have HWN := Lib.hid hwn
  clear hwn
  have HL5 := Lib.hid (sl_own' ho5).lies
  have hsz5 := Nat.le_of_lt (Blk.lt HJ.out.box)
  have hsz6 := Blk.lt HJ.out.box
  clear ho5 hb5
  go_upto_region 4 with (at_builtin; go_loud (refine wpl_app_b rfl (.tmp 16) (.tmp 22) rfl (b0 + 1) _ 24 (u8s y1) rfl HWN.out _ _ 4 (u8s (nb v.p 4)) rfl HL5.out (u8s_one _) (by omega) hsz6 ?_; intro v7 w7 hown7 hk7))
  have h7 := HJ.out.app (z := nb v.p 4) (u' := v7) (by rw [nb_len, hl1]; exact hown7) hk7
  obtain ⟨y2, hy2⟩ : ∃ y, y1 ++ nb v.p 4 = y := ⟨_, rfl⟩
  have hl2 : y2.length = 28 := by rw [← hy2, List.length_append, nb_len, hl1]
  rw [hy2] at h7
  have HY2 := Lib.hid hy2
  have HK2 := Lib.hid h7
  obtain ⟨B2, d2, rfl, _⟩ := Sl.of_own h7.own
  clear h7 hy2 hown7 hk7 HJ HL5 hsz5 hsz6
  have x4 := HK2.out.box.cell 4
  go_wp2_with fail
  clear x4
  refine (CS.out _).mono ?_
  rintro e w5 ⟨u5, rfl, ho5, hb5⟩
  obtain ⟨A5, c5, rfl, _⟩ := Sl.of_own ho5
  have HJ := Lib.hid (HK2.out.below hb5)
  rw [hl2] at HJ
  have hwn := HJ.out.own
  rw [hl2] at hwn
  have HWN := Lib.hid hwn
  clear hwn
  have HL5 := Lib.hid (sl_own' ho5).lies
  have hsz5 := Nat.le_of_lt (Blk.lt HJ.out.box)
  have hsz6 := Blk.lt HJ.out.box
  clear ho5 hb5
  go_upto_region 5 with (at_builtin; go_loud (refine wpl_app_b rfl (.tmp 24) (.tmp 30) rfl (b0 + 1) _ 28 (u8s y2) rfl HWN.out _ _ 2 (u8s (nb v.s 2)) rfl HL5.out (u8s_one _) (by omega) hsz6 ?_; intro v7 w7 hown7 hk7))
  have h7 := HJ.out.app (z := nb v.s 2) (u' := v7) (by rw [nb_len, hl2]; exact hown7) hk7
  obtain ⟨y3, hy3⟩ : ∃ y, y2 ++ nb v.s 2 = y := ⟨_, rfl⟩
  have hl3 : y3.length = 30 := by rw [← hy3, List.length_append, nb_len, hl2]
  rw [hy3] at h7
  have HY3 := Lib.hid hy3
  have HK3 := Lib.hid h7
  obtain ⟨B3, d3, rfl, _⟩ := Sl.of_own h7.own
  clear h7 hy3 hown7 hk7 HJ HL5 hsz5 hsz6
  rw [hl3] at HK3
  try rw [hl3]
  have hwn := HK3.out.own
  rw [hl3] at hwn
  have HWN := Lib.hid hwn
  clear hwn
  have x5 := HK3.out.box.cell 5
  have hsz6 := Blk.lt HK3.out.box
  go_wp2_with (at_builtin; go_loud (refine wpl_app_b rfl (.tmp 32) (.tmp 34) rfl (b0 + 1) _ 30 (u8s y3) rfl HWN.out _ _ n (u8s v.d) rfl (HS.out.on (by rw [hb0]; exact HK3.out.bel)).lies (u8s_one _) (by omega) hsz6 ?_; intro v7 w7 hown7 hk7))
  have h7 := HK3.out.app (z := v.d) (u' := v7) (by rw [HN.out, hl3]; exact hown7) hk7
  go_ret
  refine ⟨_, rfl, ?_, by rw [hb0]; exact h7.bel⟩
  have e : y3 ++ v.d = v.bytes := by
    rw [← HY3.out, ← HY2.out, ← HY1.out, ← HY0.out]
    unfold Ver.bytes verL
    simp only [List.append_assoc]
  have ho := h7.own
  rw [e, Ver.len] at ho
  rw [hb0]
  exact own_mono ho (by omega)
end Go.Proofs.Ytbkdbnkakjogjaa.Mem
/- The reference's bytes, laid slot by slot: in the end they are the page's. -/
namespace Go.Proofs.Ytbkdbnkakjogjaa.Mem
open Go.RowKit Go.Proofs.Ytbkdbnkakjogjaa.Nums
set_option linter.unusedVariables false
set_option linter.unusedSimpArgs false
set_option maxRecDepth 100000
/-- the header, and then the first k slots and their versions -/
def yb (L : SL) (st : Nat) : Nat → List UInt8
  | 0 => lay (lay (List.replicate 512 0) 0 (nb L.length 2)) 2 (nb st 2)
  | k + 1 => match (L[k]?).join with
    | none => yb L st k
    | some (v, f) => lay (lay (yb L st k) (4 + 4 * k) (nb f 2 ++ nb v.sz 2)) f v.bytes
/-- what has been laid -/
def Cov (L : SL) (k i : Nat) : Prop := i < 4 ∨ ∃ (j : Nat) (v : Ver) (f : Nat), j < k ∧ L[j]? = some (some (v, f)) ∧ ((4 + 4 * j ≤ i ∧ i < 8 + 4 * j) ∨ (f ≤ i ∧ i < f + v.sz))
section
variable {X : List UInt8} {L : SL} {st : Nat}
theorem yb_none {k : Nat} (h : L[k]? = some none) : yb L st (k + 1) = yb L st k := by
  show (match (L[k]?).join with | none => _ | some (v, f) => _) = _
  rw [h]
  rfl
theorem yb_some {k : Nat} {v : Ver} {f : Nat} (h : L[k]? = some (some (v, f))) : yb L st (k + 1) = lay (lay (yb L st k) (4 + 4 * k) (nb f 2 ++ nb v.sz 2)) f v.bytes := by
  show (match (L[k]?).join with | none => _ | some (v, f) => _) = _
  rw [h]
  rfl
theorem Has.yb (h : Has X L st) : ∀ k, k ≤ L.length → (yb L st k).length = 512 ∧ ∀ i, i < 512 → (Cov L k i → (Mem.yb L st k)[i]? = X[i]?) ∧ (¬ Cov L k i → (Mem.yb L st k)[i]? = some 0)
  | 0, _ => by
    have h1 := h.top
    have l1 : (lay (List.replicate 512 (0 : UInt8)) 0 (nb L.length 2)).length = 512 := by rw [lay_len (by rw [nb_len, List.length_replicate]; omega), List.length_replicate]
    have l2 : (lay (lay (List.replicate 512 (0 : UInt8)) 0 (nb L.length 2)) 2 (nb st 2)).length = 512 := by rw [lay_len (by rw [nb_len, l1]; omega), l1]
    refine ⟨l2, fun i hi => ⟨fun hc => ?_, fun hc => ?_⟩⟩
    · have hi4 : i < 4 := by
        rcases hc with hc | ⟨j, v, f, hj, _⟩
        · exact hc
        · omega
      show (lay (lay (List.replicate 512 (0 : UInt8)) 0 (nb L.length 2)) 2 (nb st 2))[i]? = X[i]?
      by_cases h2 : i < 2
      · rw [lay_other (by rw [nb_len, l1]; omega) (by omega)]
        have e1 := lay_get (X := List.replicate 512 (0 : UInt8)) (b := nb L.length 2) (a := 0) (by rw [nb_len, List.length_replicate]; omega) (j := i) (by rw [nb_len]; exact h2)
        have e2 := get_of_sub h.sl h2
        rw [Nat.zero_add] at e1 e2
        rw [e1, e2]
      · have e1 := lay_get (X := lay (List.replicate 512 (0 : UInt8)) 0 (nb L.length 2)) (b := nb st 2) (a := 2) (by rw [nb_len, l1]; omega) (j := i - 2) (by rw [nb_len]; omega)
        have e2 := get_of_sub h.bg (j := i - 2) (by omega)
        rw [show 2 + (i - 2) = i by omega] at e1 e2
        rw [e1, e2]
    · have hi4 : 4 ≤ i := by
        apply Classical.byContradiction
        intro hn
        exact hc (.inl (by omega))
      show (lay (lay (List.replicate 512 (0 : UInt8)) 0 (nb L.length 2)) 2 (nb st 2))[i]? = some 0
      rw [lay_other (by rw [nb_len, l1]; omega) (by rw [nb_len]; omega), lay_other (by rw [nb_len, List.length_replicate]; omega) (by rw [nb_len]; omega), List.getElem?_replicate, if_pos hi]
  | k + 1, hk => by
    obtain ⟨ihl, ih⟩ := h.yb k (by omega)
    have h1 := h.top
    have h2 := h.all
    obtain ⟨o, ho⟩ : ∃ o, L[k]? = some o := ⟨_, List.getElem?_eq_getElem (by omega)⟩
    cases o with
    | none =>
      rw [yb_none ho]
      have hcov : ∀ i, Cov L (k + 1) i ↔ Cov L k i := fun i => by
        constructor
        · rintro (hc | ⟨j, v, f, hj, hv, hr⟩)
          · exact .inl hc
          · refine .inr ⟨j, v, f, ?_, hv, hr⟩
            rcases Nat.lt_or_ge j k with hlt | hge
            · exact hlt
            · obtain rfl : j = k := by omega
              rw [ho] at hv
              cases hv
        · rintro (hc | ⟨j, v, f, hj, hv, hr⟩)
          · exact .inl hc
          · exact .inr ⟨j, v, f, by omega, hv, hr⟩
      exact ⟨ihl, fun i hi => by rw [hcov]; exact ih i hi⟩
    | some x =>
      obtain ⟨v, f⟩ := x
      obtain ⟨hvb, hf1, hf2⟩ := h.ver k v f ho
      have hvl := v.len
      have hbl : (nb f 2 ++ nb v.sz 2).length = 4 := by rw [List.length_append, nb_len, nb_len]
      have l1 : (lay (Mem.yb L st k) (4 + 4 * k) (nb f 2 ++ nb v.sz 2)).length = 512 := by rw [lay_len (by rw [hbl, ihl]; omega), ihl]
      rw [yb_some ho]
      refine ⟨by rw [lay_len (by rw [hvl, l1]; omega), l1], fun i hi => ?_⟩
      by_cases hA : f ≤ i ∧ i < f + v.sz
      · have e1 := lay_get (X := lay (Mem.yb L st k) (4 + 4 * k) (nb f 2 ++ nb v.sz 2)) (b := v.bytes) (a := f) (by rw [hvl, l1]; omega) (j := i - f) (by rw [hvl]; omega)
        have e2 := get_of_sub hvb (j := i - f) (by omega)
        rw [show f + (i - f) = i by omega] at e1 e2
        exact ⟨fun _ => by rw [e1, e2], fun hc => absurd (.inr ⟨k, v, f, by omega, ho, .inr hA⟩) hc⟩
      · rw [lay_other (X := lay (Mem.yb L st k) (4 + 4 * k) (nb f 2 ++ nb v.sz 2)) (by rw [hvl, l1]; omega) (by rw [hvl]; omega)]
        by_cases hB : 4 + 4 * k ≤ i ∧ i < 8 + 4 * k
        · have e1 := lay_get (X := Mem.yb L st k) (b := nb f 2 ++ nb v.sz 2) (a := 4 + 4 * k) (by rw [hbl, ihl]; omega) (j := i - (4 + 4 * k)) (by rw [hbl]; omega)
          have e2 := get_of_sub (h.slot k _ ho) (j := i - (4 + 4 * k)) (by omega)
          rw [show 4 + 4 * k + (i - (4 + 4 * k)) = i by omega] at e1 e2
          exact ⟨fun _ => by rw [e1, e2]; rfl, fun hc => absurd (.inr ⟨k, v, f, by omega, ho, .inl hB⟩) hc⟩
        · rw [lay_other (X := Mem.yb L st k) (by rw [hbl, ihl]; omega) (by rw [hbl]; omega)]
          obtain ⟨i1, i2⟩ := ih i hi
          refine ⟨fun hc => i1 ?_, fun hc => i2 fun hc2 => hc ?_⟩
          · rcases hc with hc | ⟨j, v', f', hj, hv, hr⟩
            · exact .inl hc
            · refine .inr ⟨j, v', f', ?_, hv, hr⟩
              rcases Nat.lt_or_ge j k with hlt | hge
              · exact hlt
              · obtain rfl : j = k := by omega
                rw [ho] at hv
                injection hv with hv; injection hv with hv; injection hv with q1 q2
                subst q1 q2
                rcases hr with hr | hr
                · exact absurd hr hB
                · exact absurd hr hA
          · rcases hc2 with hc2 | ⟨j, v', f', hj, hv, hr⟩
            · exact .inl hc2
            · exact .inr ⟨j, v', f', by omega, hv, hr⟩
/-- all slots laid: the page's very bytes -/
theorem Has.bytes (h : Has X L st) : Mem.yb L st L.length = X := by
  obtain ⟨hl, hi⟩ := h.yb L.length (Nat.le_refl _)
  have h1 := h.top
  apply List.ext_getElem?
  intro i
  by_cases h5 : i < 512
  · obtain ⟨a1, a2⟩ := hi i h5
    by_cases hc : Cov L L.length i
    · exact a1 hc
    · rw [a2 hc]
      have hi4 : 4 ≤ i := by
        apply Classical.byContradiction
        intro hn
        exact hc (.inl (by omega))
      by_cases hs : i < 4 + 4 * L.length
      · obtain ⟨o, ho⟩ : ∃ o, L[(i - 4) / 4]? = some o := ⟨_, List.getElem?_eq_getElem (by omega)⟩
        have e := get_of_sub (h.slot _ o ho) (j := (i - 4) % 4) (by omega)
        rw [show 4 + 4 * ((i - 4) / 4) + (i - 4) % 4 = i by omega] at e
        rw [e]
        cases o with
        | none =>
          show some 0 = (List.replicate 4 (0 : UInt8))[(i - 4) % 4]?
          rw [List.getElem?_replicate, if_pos (by omega)]
        | some x =>
          obtain ⟨v, f⟩ := x
          exact absurd (.inr ⟨(i - 4) / 4, v, f, by omega, ho, .inl (by omega)⟩) hc
      · refine (h.rest i (by omega) h5 fun s v f hv => ?_).symm
        apply Classical.byContradiction
        intro hn
        exact hc (.inr ⟨s, v, f, h.le hv, hv, .inr (by omega)⟩)
  · rw [List.getElem?_eq_none (by rw [hl]; omega), List.getElem?_eq_none (by rw [h.len]; omega)]
end
end Go.Proofs.Ytbkdbnkakjogjaa.Mem
/- lapidaryref05.Bytes: the page's very bytes. -/
namespace Go.Proofs.Ytbkdbnkakjogjaa.Mem
open Go.RowKit Go.Proofs.Ytbkdbnkakjogjaa.Nums
set_option linter.unusedVariables false
set_option linter.unusedSimpArgs false
set_option maxRecDepth 100000
set_option maxHeartbeats 1000000
theorem wrap_i64' {z : Int} (h0 : 0 ≤ z) (h1 : z < 9223372036854775808) : IntKind.i64.wrap z = z := by rw [IntKind.wrap_i64]; omega
theorem rbytes_nil (w : World) : Calls Try.prog 20 #[.pointer none] w fun e w' => e = .returned (.slice none 0 0) ∧ w = w' := by
  go_enter Try.func20, Try.ntmps20
  go_wp2_with fail
  go_ret
  exact ⟨rfl, rfl⟩
theorem rroom_nil (w : World) : Calls Try.prog 22 #[.pointer none] w fun e w' => e = .returned (.int .i64 (-1)) ∧ w = w' := by
  go_enter Try.func22, Try.ntmps22
  go_wp2_with fail
  go_ret
  exact ⟨rfl, rfl⟩
theorem BB.own {w : World} {B g n : Nat} {X : List UInt8} (h : BB w g 5 X) (hn : X.length = n) (h0 : 0 < n) (hm : n ≤ 100000) (hB : B ≤ g) : OwnB w B (.slice (some ⟨g, 0, none⟩) n n) n (u8s X) := by
  refine ⟨?_, .inr ⟨g, n, _, rfl, ?_, h, ?_, ?_, ?_, ?_⟩⟩
  · rw [u8s_len, hn, Nat.mul_one]
  · exact hB
  · exact Nat.le_refl _
  · unfold maxLen; omega
  · rw [List.size_toArray, u8s_len, hn, Nat.mul_one]
  · rw [List.toList_toArray, Nat.mul_one, ← hn, ← u8s_len, List.take_length]
theorem rbytes_any {w : World} {F : Nat → Prop} {R st c : Nat} {E : List Ent} {A : Option Addr} {X : List UInt8} (h : RfA w F R E st A c) (hX : Has X (E.map Prod.fst) st) :
    Calls Try.prog 20 #[.pointer (some ⟨R, 0, none⟩)] w fun e w' => e = .returned (.slice (some ⟨w.heap.size, 0, none⟩) 512 512) ∧ BB w' w.heap.size 5 X ∧ Below w.heap.size w w' := by
  obtain ⟨g, hg⟩ : ∃ g, w.heap.size = g := ⟨_, rfl⟩
  obtain ⟨W1, hW1⟩ : ∃ W1, w.alloc (.cells (u8s (List.replicate 512 0)).toArray 5) = W1 := ⟨_, rfl⟩
  have hmk := make_u8 512 (by omega) w
  have HG := Lib.hid hg
  rw [hg, hW1] at hmk
  push_cast at hmk
  have HB1 : Hid (BB W1 g 5 (List.replicate 512 0)) := Lib.hid (by rw [← hW1, ← hg]; exact Blk.new w _ _)
  have HO1 : Hid (Below g w W1) := Lib.hid (by rw [← hW1, ← hg]; exact bel_alloc _ _)
  have HR1 : Hid (RfA W1 F R E st A c) := Lib.hid (h.below (by rw [hg]; exact HO1.out))
  have hlt := h.lt
  rw [hg] at hlt
  have HF : Hid (¬ F g) := Lib.hid (fun hf => by have := hlt g hf; omega)
  have hRg : R ≠ g := fun e => HF.out (e ▸ h.fr)
  have htop := hX.top
  have hall := hX.all
  have hall0 : (st : Int) ≤ 512 := by omega
  rw [List.length_map] at htop
  have HX := Lib.hid hX
  have HE := Lib.hid (HR1.out.own)
  have hle := h.le
  unfold maxLen at hle
  have x0 := HR1.out.blk.cell 0
  rw [hg]
  clear h hX hW1 hg hlt
  go_enter Try.func20, Try.ntmps20
  go_wp2_with fail
  clear x0
  have CL := Lib.hid (rfew_any E.length 2 W1 (by omega) (by omega))
  refine CL.out.mono ?_
  rintro e w2 ⟨u2, rfl, ho2, hb2⟩
  obtain ⟨A2, c2, rfl, hs2⟩ := Sl.of_own ho2
  have hg1 := Blk.lt HB1.out
  have HB2 : Hid (BB w2 g 5 (List.replicate 512 0)) := Lib.hid (Blk.below HB1.out hb2 hg1)
  have HS2 := Lib.hid hs2
  have HN2 : Hid (∀ ad, A2 = some ad → 0 < 2 → ad.block ≠ g) := Lib.hid (by
    rintro ad rfl _ he
    have := (ho2.lt ad.block rfl).1
    omega)
  have HB12 : Hid (Below g w w2) := Lib.hid (HO1.out.trans (hb2.mono (Nat.le_of_lt hg1)))
  have HR2 := Lib.hid (HR1.out.below hb2)
  clear ho2 hb2 hs2
  go_wp2_with fail
  refine (rlay_any g 5 (List.replicate 512 0) (nb E.length 2) 0 512 512 2 c2 A2 w2 HB2.out (List.length_replicate ..) (by omega) (by unfold maxLen; omega) HS2.out HN2.out (by omega) (by omega)).mono ?_
  rintro e w3 ⟨rfl, hbb3, ho3⟩
  have HB3 := Lib.hid hbb3
  have HR3 := Lib.hid (HR2.out.only ho3 HF.out)
  have HB13 : Hid (Below g w w3) := Lib.hid (HB12.out.trans (ho3.below (Nat.le_of_lt (Blk.lt HB2.out)) (Nat.le_refl _)))
  clear hbb3 ho3
  have x0 := HR3.out.blk.cell 0
  have x1 := HR3.out.blk.cell 1
  go_wp2_with fail
  clear x0 x1
  have CS := Lib.hid (rfew_any st 2 w3 (by omega) (by omega))
  refine CS.out.mono ?_
  rintro e w4 ⟨u4, rfl, ho4, hb4⟩
  obtain ⟨A4, c4, rfl, hs4⟩ := Sl.of_own ho4
  have hg3 := Blk.lt HB3.out
  have HB4 := Lib.hid (Blk.below HB3.out hb4 hg3)
  have HS4 := Lib.hid hs4
  have HN4 : Hid (∀ ad, A4 = some ad → 0 < 2 → ad.block ≠ g) := Lib.hid (by
    rintro ad rfl _ he
    have := (ho4.lt ad.block rfl).1
    omega)
  have HB14 : Hid (Below g w w4) := Lib.hid (HB13.out.trans (hb4.mono (Nat.le_of_lt hg3)))
  have HR4 := Lib.hid (HR3.out.below hb4)
  clear ho4 hb4 hs4
  go_wp2_with fail
  refine (rlay_any g 5 (lay (List.replicate 512 0) 0 (nb E.length 2)) (nb st 2) 2 512 512 2 c4 A4 w4 HB4.out (by rw [lay_len (by rw [nb_len, List.length_replicate]; omega), List.length_replicate]) (by omega) (by unfold maxLen; omega) HS4.out HN4.out (by omega) (by omega)).mono ?_
  rintro e w5 ⟨rfl, hbb5, ho5⟩
  have HB5 : Hid (BB w5 g 5 (yb (E.map Prod.fst) st 0)) := Lib.hid (by
    have h := hbb5
    unfold yb
    rw [List.length_map]
    exact h)
  have HR5 := Lib.hid (HR4.out.only ho5 HF.out)
  have HB15 : Hid (Below g w w5) := Lib.hid (HB14.out.trans (ho5.below (Nat.le_of_lt (Blk.lt HB4.out)) (Nat.le_refl _)))
  clear hbb5 ho5 CL CS HB2 HS2 HN2 HB12 HR2 HB3 HR3 HB13 HB4 HS4 HN4 HB14 HR4 HE hmk HB1 HO1 HR1 hg1 hg3
  have x0 := HR5.out.blk.cell 0
  go_wp2_with fail
  clear x0
  go_loopw [31] (fun i wr => ∃ k : Nat, k ≤ E.length ∧ i = .int .i64 k ∧ BB wr g 5 (yb (E.map Prod.fst) st k) ∧ RfA wr F R E st A c ∧ Below g w wr) (fun i _ => E.length - (intOf i).toNat)
  case atStart => exact ⟨0, by omega, rfl, HB5.out, HR5.out, HB15.out⟩
  case round =>
    obtain ⟨k, hk, rfl, hbk, hrk, hwk⟩ := hrel
    have HK := Lib.hid hbk
    have HR := Lib.hid hrk
    have HW := Lib.hid hwk
    clear hbk hrk hwk HB5 HR5 HB15
    by_cases hlt : k < E.length
    · have hlt' : (k : Int) < E.length := by omega
      obtain ⟨⟨o, u⟩, he⟩ : ∃ e, E[k]? = some e := ⟨_, List.getElem?_eq_getElem hlt⟩
      have HM := Lib.hid (map_at he)
      obtain ⟨ga, cur, rfl, hga, _, _, hFa⟩ := HR.out.arr hlt
      cases o with
      | none =>
        obtain ⟨y0, y1, y2, y3, y4, y5, y6, y7⟩ := HR.out.free8 he rfl
        go_wp2_with fail
        go_roundw
        case rel => exact ⟨k + 1, by omega, by go_num, by rw [yb_none HM.out]; exact Blk.alloc HK.out _, HR.out.below (bel_alloc _ _), HW.out.trans ((bel_alloc _ _).mono (by have := HW.out.size; rw [HG.out] at this; exact this))⟩
        case measure => simp [intOf]; omega
      | some x =>
        obtain ⟨v, f⟩ := x
        obtain ⟨A', c', rfl, hsl⟩ := Sl.of_own (HR.out.data k v f u he).1
        obtain ⟨y0, y1, y2, y3, y4, y5, y6, y7⟩ := HR.out.full8 he rfl
        obtain ⟨b0, hb0⟩ : ∃ b0, wr.heap.size = b0 := ⟨_, rfl⟩
        obtain ⟨W2, hW2⟩ : ∃ W2, wr.alloc (.cells #[.bool true, .int .u64 v.r, .int .u64 v.a, .int .u64 v.b, .int .i64 ((v.p : Int) - 1), .int .i64 ((v.s : Int) - 1), .slice A' v.d.length c', .int .i64 f] 122) = W2 := ⟨_, rfl⟩
        have HW2 := Lib.hid hW2
        have HB0 := Lib.hid hb0
        have HBX : Hid (Blk W2 b0 122 #[.bool true, .int .u64 v.r, .int .u64 v.a, .int .u64 v.b, .int .i64 ((v.p : Int) - 1), .int .i64 ((v.s : Int) - 1), .slice A' v.d.length c', .int .i64 f]) := Lib.hid (by rw [← hW2, ← hb0]; exact Blk.new _ _ _)
        have HK2 : Hid (BB W2 g 5 (yb (E.map Prod.fst) st k)) := Lib.hid (by rw [← hW2]; exact Blk.alloc HK.out _)
        have HR2 : Hid (RfA W2 F R E st (some ⟨ga, 0, none⟩) c) := Lib.hid (by rw [← hW2]; exact HR.out.below (bel_alloc _ _))
        have HW2b : Hid (Below g w W2) := Lib.hid (by rw [← hW2]; exact HW.out.trans ((bel_alloc _ _).mono (by have := HW.out.size; rw [HG.out] at this; exact this)))
        have hgb : g < b0 := by rw [← hb0]; exact Blk.lt HK.out
        have hlb := Blk.lt HBX.out
        have hbg : b0 ≠ g := by omega
        have HOK := Lib.hid (HX.out.okv k v f HM.out)
        obtain ⟨hvb, hf1, hf2⟩ := HX.out.ver k v f HM.out
        have hsz : v.sz = 30 + v.d.length := rfl
        have hdl := HOK.out.d
        have hd0 : (v.d.length : Int) ≤ 200 := by omega
        have hf0 : (f : Int) ≤ 512 := by omega
        have hk0 : (k : Int) ≤ 127 := by omega
        have HYL : Hid ((yb (E.map Prod.fst) st k).length = 512) := Lib.hid (HX.out.yb k (by rw [List.length_map]; omega)).1
        have CF : Hid (∀ (w0 : World) (z : Int), z = f → Calls Try.prog 67 #[.int .u64 z, .int .i64 2] w0 fun e w' => ∃ u, e = .returned u ∧ OwnB w' w0.heap.size u 2 (u8s (nb f 2)) ∧ Below w0.heap.size w0 w') := Lib.hid (fun w0 z hz => by rw [hz]; exact rfew_any f 2 w0 (by omega) (by omega))
        have CZ : Hid (∀ (w0 : World) (z : Int), z = 30 + (v.d.length : Int) → Calls Try.prog 67 #[.int .u64 z, .int .i64 2] w0 fun e w' => ∃ u, e = .returned u ∧ OwnB w' w0.heap.size u 2 (u8s (nb v.sz 2)) ∧ Below w0.heap.size w0 w') := Lib.hid (fun w0 z hz => by
          rw [hz]
          have h := rfew_any v.sz 2 w0 (by omega) (by omega)
          have e : ((v.sz : Nat) : Int) = 30 + (v.d.length : Int) := by omega
          rw [e] at h
          exact h)
        have CL1 : Hid (∀ (w0 : World) (Ab : Option Addr) (cb : Nat) (z : Int), z = 4 + 4 * (k : Int) → BB w0 g 5 (yb (E.map Prod.fst) st k) → Sl w0 w0.heap.size 1 Ab 4 cb (u8s (nb f 2 ++ nb v.sz 2)) → (∀ ad, Ab = some ad → 0 < 4 → ad.block ≠ g) → Calls Try.prog 66 #[.slice (some ⟨g, 0, none⟩) 512 512, .int .i64 z, .slice Ab 4 cb] w0 fun e w' => e = .returned (.tuple #[]) ∧ BB w' g 5 (lay (yb (E.map Prod.fst) st k) (4 + 4 * k) (nb f 2 ++ nb v.sz 2)) ∧ Only g w0 w') := Lib.hid (fun w0 Ab cb z hz h1 h2 h3 => by
          rw [hz]
          have h := rlay_any g 5 (yb (E.map Prod.fst) st k) (nb f 2 ++ nb v.sz 2) (4 + 4 * k) 512 512 4 cb Ab w0 h1 HYL.out (by omega) (by unfold maxLen; omega) h2 h3 (by omega) (by omega)
          have e : ((4 + 4 * k : Nat) : Int) = 4 + 4 * (k : Int) := by omega
          rw [e] at h
          exact h)
        clear hvb hf1 hf2 hsz hdl hW2 HK HR HW hb0 hga hFa
        go_wp2_with fail
        rw [HW2.out]
        rw [HB0.out]
        have x6 := HBX.out.cell 6
        have x7 := HBX.out.cell 7
        go_region_held3 (fun w' => w'.cell? ⟨b0, 6, none⟩ = some (.slice A' v.d.length c') ∧ w'.cell? ⟨b0, 7, none⟩ = some (.int .i64 f)) (first | go_keep | exact ⟨h5x.cell 6, h5x.cell 7⟩ | exact ⟨hk3.cell (h3x.cell 6) (own_blk_ne ho1' h3x (by decide)), hk3.cell (h3x.cell 7) (own_blk_ne ho1' h3x (by decide))⟩ | exact ⟨h3x.cell 6, h3x.cell 7⟩ | exact ⟨h2x.cell 6, h2x.cell 7⟩)
          (first
            | (go_at_call 66; obtain ⟨A4, c4, rfl, hs4⟩ := Sl.of_own (show OwnB w4 W2.heap.size v3 4 _ from hown3); have h4b := hb12.trans (hk3.below (Nat.le_trans hb1.size hb2.size) (fun g hg => (ho1'.lt g hg).1)); have h4x := Blk.below (Blk.drew HBX.out) h4b hlb; refine (CL1.out _ A4 c4 _ (by first | omega | (rw [IntKind.wrap_u64]; omega) | (rw [wrap_i64' (by omega) (by omega), IntKind.wrap_u64]; omega) | (rw [wrap_i64' (z := 4 * (k : Int)) (by omega) (by omega), wrap_i64' (by omega) (by omega)])) (Blk.below (Blk.drew HK2.out) h4b (Nat.lt_trans hgb hlb)) (by rw [u8s_app]; exact hs4) (by rintro ad rfl _ he; have := (hown3.lt ad.block rfl).1; omega)).mono ?_; rintro e w5 ⟨rfl, hbb5, ho5⟩; have h5x := ho5.blk h4x hbg)
            | (go_at_call 67; have h2y := h2x; refine (CZ.out _ _ (by first | omega | (rw [IntKind.wrap_u64]; omega) | (rw [wrap_i64' (by omega) (by omega), IntKind.wrap_u64]; omega) | (rw [wrap_i64' (z := 4 * (k : Int)) (by omega) (by omega), wrap_i64' (by omega) (by omega)]))).mono ?_; rintro e w3 ⟨u2, rfl, ho2, hb2⟩; have h3x := Blk.below h2x hb2 (Blk.lt h2x); have ho1' : OwnB w3 W2.heap.size u1 2 (u8s (nb f 2)) := own_keep ho1 (fun k hk => hb2.block k (ho1.lt k hk).2); have hL2 : Lies w3 w3.heap.size 1 u2 2 (u8s (nb v.sz 2)) := own_lies ho2; have hsz3 : W2.heap.size ≤ w3.heap.size := Nat.le_trans hb1.size hb2.size; have hb12 : Below W2.heap.size W2.drew w3 := hb1.trans (hb2.mono hb1.size))
            | (go_at_call 67; refine (CF.out _ _ (by first | omega | (rw [IntKind.wrap_u64]; omega) | (rw [wrap_i64' (by omega) (by omega), IntKind.wrap_u64]; omega) | (rw [wrap_i64' (z := 4 * (k : Int)) (by omega) (by omega), wrap_i64' (by omega) (by omega)]))).mono ?_; rintro e w2 ⟨u1, rfl, ho1, hb1⟩; have h2x := Blk.below (Blk.drew HBX.out) hb1 hlb)
            | (refine step_app_b rfl (.tmp 45) (.tmp 52) rfl W2.heap.size u1 2 (u8s (nb f 2)) rfl ho1' w3.heap.size u2 2 (u8s (nb v.sz 2)) rfl hL2 (u8s_one _) ?_ hsz3 ?_; (omega); intro v3 w4 hown3 hk3))
        have HK5 := Lib.hid hbb5
        have HBX5 := Lib.hid h5x
        have HR5 : Hid (RfA w5 F R E st (some ⟨ga, 0, none⟩) c) := Lib.hid (((HR2.out.keep (w' := W2.drew) (fun _ _ => rfl) (Nat.le_refl _)).below h4b).only ho5 HF.out)
        have HW5 : Hid (Below g w w5) := Lib.hid ((HW2b.out.drew.trans (h4b.mono (Nat.le_of_lt (Nat.lt_trans hgb hlb)))).trans (ho5.below (Nat.le_of_lt (Nat.lt_of_lt_of_le (Nat.lt_trans hgb hlb) h4b.size)) (Nat.le_refl _)))
        have hlb5 := Blk.lt h5x
        have hlg5 := Blk.lt hbb5
        have HE := Lib.hid he
        have HYL5 : Hid ((lay (yb (E.map Prod.fst) st k) (4 + 4 * k) (nb f 2 ++ nb v.sz 2)).length = 512) := Lib.hid (by rw [lay_len (by rw [List.length_append, nb_len, nb_len, HYL.out]; omega), HYL.out])
        have HVR := Lib.hid (HX.out.ver k v f HM.out)
        have CP : Hid (∀ w0 : World, RfA w0 F R E st (some ⟨ga, 0, none⟩) c → Calls Try.prog 68 #[.agg #[.int .u64 v.r, .int .u64 v.a, .int .u64 v.b, .int .i64 ((v.p : Int) - 1), .int .i64 ((v.s : Int) - 1), .slice A' v.d.length c']] w0 fun e w' => ∃ u, e = .returned u ∧ OwnB w' w0.heap.size u v.sz (u8s v.bytes) ∧ Below w0.heap.size w0 w') := Lib.hid (fun w0 h0 => rpack_any v w0 A' c' HOK.out (sl_own' (h0.data k v f _ HE.out).1))
        have CL2 : Hid (∀ (w0 : World) (Ab : Option Addr) (cb : Nat), BB w0 g 5 (lay (yb (E.map Prod.fst) st k) (4 + 4 * k) (nb f 2 ++ nb v.sz 2)) → Sl w0 w0.heap.size 1 Ab v.sz cb (u8s v.bytes) → (∀ ad, Ab = some ad → 0 < v.sz → ad.block ≠ g) → Calls Try.prog 66 #[.slice (some ⟨g, 0, none⟩) 512 512, .int .i64 f, .slice Ab v.sz cb] w0 fun e w' => e = .returned (.tuple #[]) ∧ BB w' g 5 (yb (E.map Prod.fst) st (k + 1)) ∧ Only g w0 w') := Lib.hid (fun w0 Ab cb h1 h2 h3 => by
          have h4 := HVR.out.2.2
          have h := rlay_any g 5 _ v.bytes f 512 512 v.sz cb Ab w0 h1 HYL5.out (by omega) (by unfold maxLen; omega) h2 h3 (by omega) (by omega)
          rw [yb_some HM.out]
          exact h)
        clear hbb5 ho5 h4x h4b hown3 hk3 hL2 hsz3 hb12 ho1' ho1 hb1 ho2 hb2 h2x h2y h3x hs4 CF CZ CL1 HW2 HBX HK2 HR2 HW2b x6 x7 y0 y1 y2 y3 y4 y5 y6 y7 hsl he
        go_wp2_with fail
        have z1 := HBX5.out.cell 1
        have z2 := HBX5.out.cell 2
        have z3 := HBX5.out.cell 3
        have z4 := HBX5.out.cell 4
        have z5 := HBX5.out.cell 5
        have z6 := HBX5.out.cell 6
        have z7 := HBX5.out.cell 7
        go_region_held3 (fun w' => w'.cell? ⟨b0, 1, none⟩ = some (.int .u64 v.r) ∧ w'.cell? ⟨b0, 2, none⟩ = some (.int .u64 v.a) ∧ w'.cell? ⟨b0, 3, none⟩ = some (.int .u64 v.b) ∧ w'.cell? ⟨b0, 4, none⟩ = some (.int .i64 ((v.p : Int) - 1)) ∧ w'.cell? ⟨b0, 5, none⟩ = some (.int .i64 ((v.s : Int) - 1)) ∧ w'.cell? ⟨b0, 6, none⟩ = some (.slice A' v.d.length c') ∧ w'.cell? ⟨b0, 7, none⟩ = some (.int .i64 f)) (first | go_keep | exact ⟨h7x.cell 1, h7x.cell 2, h7x.cell 3, h7x.cell 4, h7x.cell 5, h7x.cell 6, h7x.cell 7⟩ | exact ⟨h6x.cell 1, h6x.cell 2, h6x.cell 3, h6x.cell 4, h6x.cell 5, h6x.cell 6, h6x.cell 7⟩ | exact ⟨h5x.cell 1, h5x.cell 2, h5x.cell 3, h5x.cell 4, h5x.cell 5, h5x.cell 6, h5x.cell 7⟩)
          (first
            | (go_at_call 66; obtain ⟨A6, c6, rfl, hs6⟩ := Sl.of_own ho6; refine (CL2.out _ A6 c6 (Blk.below (Blk.drew HK5.out) hb6 hlg5) hs6 (by rintro ad rfl _ he; have := (ho6.lt ad.block rfl).1; have h9 : w5.drew.heap.size = w5.heap.size := rfl; omega)).mono ?_; rintro e w7 ⟨rfl, hbb7, ho7⟩; have h7x := ho7.blk h6x hbg)
            | (go_at_call 68; refine (CP.out _ (HR5.out.keep (w' := w5.drew) (fun _ _ => rfl) (Nat.le_refl _))).mono ?_; rintro e w6 ⟨u6, rfl, ho6, hb6⟩; have h6x := Blk.below (Blk.drew HBX5.out) hb6 hlb5))
        have HK7 := Lib.hid hbb7
        have HR7 : Hid (RfA w7 F R E st (some ⟨ga, 0, none⟩) c) := Lib.hid (((HR5.out.keep (w' := w5.drew) (fun _ _ => rfl) (Nat.le_refl _)).below hb6).only ho7 HF.out)
        have HW7 : Hid (Below g w w7) := Lib.hid ((HW5.out.drew.trans (hb6.mono (Nat.le_of_lt hlg5))).trans (ho7.below (Nat.le_of_lt (Nat.lt_of_lt_of_le hlg5 hb6.size)) (Nat.le_refl _)))
        clear hbb7 ho7 ho6 hb6 hs6 h6x h7x h5x HK5 HR5 HW5 HBX5 CP CL2 HVR HYL5 HYL z1 z2 z3 z4 z5 z6 z7
        go_wp2_with fail
        go_roundw
        case rel => exact ⟨k + 1, by omega, by go_num, HK7.out, HR7.out, HW7.out⟩
        case measure => simp [intOf]; omega
    · obtain rfl : k = E.length := by omega
      go_wp2_with fail
      go_ret
      refine ⟨rfl, ?_, HW.out⟩
      have h9 := HX.out.bytes
      rw [List.length_map] at h9
      rw [← h9]
      exact HK.out
end Go.Proofs.Ytbkdbnkakjogjaa.Mem
/- page.Load's parts: isFree, rightSlots. -/
namespace Go.Proofs.Ytbkdbnkakjogjaa.Mem
open Go.RowKit Go.Proofs.Ytbkdbnkakjogjaa.Nums
set_option linter.unusedVariables false
set_option linter.unusedSimpArgs false
set_option maxRecDepth 100000
set_option maxHeartbeats 1000000
/-- both numbers of a slot are 0 -/
def frB (X : List UInt8) (s : Nat) : Bool := get2 X (4 + 4 * s) == 0 && get2 X (6 + 4 * s) == 0
theorem isFree_pg (P s : Nat) (X : List UInt8) (w : World) (hp : Pg w P X) (hs : 4 + 4 * s + 4 ≤ 512) :
    Calls Try.prog 99 #[.pointer (some ⟨P, 0, none⟩), .int .i64 s] w fun e w' => e = .returned (.bool (frB X s)) ∧ ∃ m, w' = w.drewN m := by
  have C1 := Lib.hid (span_pg P s X w hp hs)
  unfold frB
  clear hp
  generalize get2 X (4 + 4 * s) = f at *
  generalize get2 X (6 + 4 * s) = z at *
  obtain ⟨r, hr⟩ : ∃ r : Bool, (f == 0 && z == 0) = r := ⟨_, rfl⟩
  have HR := Lib.hid hr
  rw [hr]
  clear hr
  go_enter Try.func99, Try.ntmps99
  go_wp2_with fail
  refine C1.out.mono ?_
  rintro e w1 ⟨rfl, m, rfl⟩
  rcases Nat.eq_zero_or_pos f with rfl | hf
  · rcases Nat.eq_zero_or_pos z with rfl | hz
    · go_wp2_with fail
      go_ret
      exact ⟨by rw [← HR.out]; rfl, _, rfl⟩
    · have hz0 : ((z : Int) == 0) = false := by rw [beq_eq_false_iff_ne]; omega
      have hz1 : Hid (r = false) := Lib.hid (by rw [← HR.out]; simp; omega)
      go_wp2_with fail
      go_ret
      exact ⟨by rw [hz1.out]; rfl, _, rfl⟩
  · have hz0 : ((f : Int) == 0) = false := by rw [beq_eq_false_iff_ne]; omega
    have hz1 : Hid (r = false) := Lib.hid (by rw [← HR.out]; simp; omega)
    go_wp2_with fail
    go_ret
    exact ⟨by rw [hz1.out]; rfl, _, rfl⟩
/-- what rightSlots tells -/
def rsB (X : List UInt8) : Bool := decide (4 + 4 * get2 X 0 ≤ get2 X 2) && (decide (get2 X 2 ≤ 512) && (get2 X 0 == 0 || !frB X (get2 X 0 - 1)))
theorem rightSlots_pg (P : Nat) (X : List UInt8) (w : World) (hp : Pg w P X) :
    Calls Try.prog 74 #[.pointer (some ⟨P, 0, none⟩)] w fun e w' => e = .returned (.bool (rsB X)) ∧ ∃ m, w' = w.drewN m := by
  have CS := Lib.hid (slots_pg P X w hp)
  have CB := Lib.hid (begin_pg P X w hp)
  have HP := Lib.hid hp
  have CF : Hid (∀ s : Nat, 4 + 4 * s + 4 ≤ 512 → Calls Try.prog 99 #[.pointer (some ⟨P, 0, none⟩), .int .i64 s] w fun e w' => e = .returned (.bool (frB X s)) ∧ ∃ m, w' = w.drewN m) := Lib.hid (fun s hs => isFree_pg P s X w hp hs)
  have hG := get2_lt X 0
  have hB := get2_lt X 2
  obtain ⟨r, hr⟩ : ∃ r : Bool, rsB X = r := ⟨_, rfl⟩
  have HR := Lib.hid hr
  rw [hr]
  unfold rsB at HR
  clear hp hr
  generalize get2 X 0 = G at *
  generalize get2 X 2 = B at *
  go_enter Try.func74, Try.ntmps74
  go_wp2_with fail
  refine CS.out.mono ?_
  rintro e w1 ⟨rfl, rfl⟩
  have hG0 : (G : Int) < 65536 := by omega
  have hB0 : (B : Int) < 65536 := by omega
  go_wp2_with fail
  refine CB.out.mono ?_
  rintro e w2 ⟨rfl, rfl⟩
  by_cases h1 : 4 + 4 * G ≤ B
  · have h1' : ¬ (B : Int) < 4 + G * 4 := by omega
    have H1 := Lib.hid h1
    clear h1
    go_wp2_with fail
    refine CB.out.mono ?_
    rintro e w3 ⟨rfl, rfl⟩
    by_cases h2 : B ≤ 512
    · have h2' : ¬ (512 : Int) < B := by omega
      by_cases h3 : G = 0
      · have h3' : ((G : Int) == 0) = true := by rw [beq_iff_eq]; omega
        have h1 := H1.out
        have HF : Hid (r = true) := Lib.hid (by rw [← HR.out, h3]; simp; omega)
        clear h3 HR CF h1 h2 hG hB hG0 hB0 CB CS
        go_wp2_with fail
        go_ret
        exact ⟨by rw [HF.out]; rfl, 0, rfl⟩
      · have h3' : ((G : Int) == 0) = false := by rw [beq_eq_false_iff_ne]; omega
        have hg1 : (G : Int) - 1 = ((G - 1 : Nat) : Int) := by omega
        have h1 := H1.out
        have HF : Hid (r = !frB X (G - 1)) := Lib.hid (by
          rw [← HR.out]
          have a1 : decide (4 + 4 * G ≤ B) = true := decide_eq_true h1
          have a2 : decide (B ≤ 512) = true := decide_eq_true h2
          have a3 : (G == 0) = false := by rw [beq_eq_false_iff_ne]; exact h3
          rw [a1, a2, a3]
          rfl)
        have CF1 := Lib.hid (CF.out (G - 1) (by omega))
        have HG1 := Lib.hid hg1
        clear hg1 h3 HR CF h1 h2 hG hB hB0 CB CS hG0
        go_wp2_with fail
        rw [HG1.out]
        refine CF1.out.mono ?_
        rintro e w4 ⟨rfl, m, rfl⟩
        go_wp2_with fail
        go_ret
        exact ⟨by rw [HF.out]; rfl, _, rfl⟩
    · have h2' : (512 : Int) < B := by omega
      have HF : Hid (r = false) := Lib.hid (by rw [← HR.out]; simp; omega)
      go_wp2_with fail
      go_ret
      exact ⟨by rw [HF.out]; rfl, 0, rfl⟩
  · have h1' : (B : Int) < 4 + G * 4 := by omega
    have HF : Hid (r = false) := Lib.hid (by rw [← HR.out]; simp; omega)
    clear h1 hG hB hG0 hB0
    go_wp2_with fail
    go_ret
    exact ⟨by rw [HF.out]; rfl, 0, rfl⟩
end Go.Proofs.Ytbkdbnkakjogjaa.Mem
/- lapidaryref05.get: the number that bytes are. -/
namespace Go.Proofs.Ytbkdbnkakjogjaa.Mem
open Go.RowKit Go.Proofs.Ytbkdbnkakjogjaa.Nums
set_option linter.unusedVariables false
set_option linter.unusedSimpArgs false
set_option maxRecDepth 100000
set_option maxHeartbeats 1000000
theorem leN_drop {b : List UInt8} {k : Nat} {y : UInt8} (h : b[k]? = some y) : leN (b.drop k) = y.toNat + 256 * leN (b.drop (k + 1)) := by
  obtain ⟨hk, hy⟩ := List.getElem?_eq_some_iff.1 h
  rw [List.drop_eq_getElem_cons hk, hy]
  rfl
theorem leN_drop_lt (b : List UInt8) (k : Nat) (hl : b.length ≤ 7) (hk : 1 ≤ k) : leN (b.drop k) < 281474976710656 := by
  refine Nat.lt_of_lt_of_le (leN_lt _) ?_
  rw [List.length_drop]
  exact Nat.le_trans (Nat.pow_le_pow_right (by omega) (show 8 * (b.length - k) ≤ 48 by omega)) (by decide)
theorem rgetb_any (b : List UInt8) (n c : Nat) (A : Option Addr) (w : World) (hs : Sl w w.heap.size 1 A n c (u8s b)) (hn : n ≤ 7) :
    Calls Try.prog 76 #[.slice A n c] w fun e w' => e = .returned (.int .i64 (leN b : Nat)) ∧ w = w' := by
  have HS := Lib.hid hs
  have HN := Lib.hid (len_of hs)
  have hn0 : (n : Int) ≤ 7 := by omega
  clear hs
  go_enter Try.func76, Try.ntmps76
  go_wp2_with fail
  go_loopw [3, 4] (fun nv i wr => ∃ k : Nat, k ≤ n ∧ i = .int .i64 ((k : Int) - 1) ∧ nv = .int .i64 (leN (b.drop k) : Nat) ∧ wr = w) (fun _ i _ => (intOf i + 1).toNat)
  case atStart => exact ⟨n, by omega, rfl, by rw [List.drop_of_length_le (by rw [HN.out]; omega)]; rfl, rfl⟩
  case round =>
    obtain ⟨k, hk, rfl, rfl, rfl⟩ := hrel
    rcases Nat.eq_zero_or_pos k with rfl | hpos
    · rw [List.drop_zero]
      go_wp2_with fail
      go_ret
      exact ⟨rfl, rfl⟩
    · obtain ⟨j, rfl⟩ : ∃ j, k = j + 1 := ⟨k - 1, by omega⟩
      obtain ⟨y, hy⟩ : ∃ y, b[j]? = some y := ⟨_, List.getElem?_eq_getElem (by rw [HN.out]; omega)⟩
      obtain ⟨ad, rfl, hAt⟩ := HS.out.at_ (by omega)
      have y0 : wr.cell? (ad.add j) = some (.int .u8 (y.toNat : Int)) := u8s_at hAt hy
      have HL := Lib.hid (leN_drop hy)
      have hlt := leN_drop_lt b (j + 1) (by rw [HN.out]; omega) (by omega)
      have hyb : y.toNat < 256 := y.toNat_lt
      have hj : ((j + 1 : Nat) : Int) - 1 = j := by omega
      have hjn : j < n := by omega
      have hjn' : (j : Int) < n := by omega
      rw [hj]
      obtain ⟨V, hV⟩ : ∃ V, leN (b.drop (j + 1)) = V := ⟨_, rfl⟩
      rw [hV] at hlt HL ⊢
      have hV0 : (V : Int) < 281474976710656 := by omega
      have hy0 : (y.toNat : Int) < 256 := by omega
      clear hj hV hAt hy hlt hyb hk hpos
      go_wp2_with fail
      go_roundw
      case rel => exact ⟨j, by omega, by go_num, by rw [HL.out]; (first | (congr 1; push_cast; omega) | (simp; omega)), by first | rfl | trivial⟩
      case measure => simp [intOf]
end Go.Proofs.Ytbkdbnkakjogjaa.Mem
