/- lapidaryref05.Insert. -/
import Derived.Test.YtbpgjpopmohbmaaRfG
import Derived.Deep.RegionHeld3
import Derived.Deep.CutRange
namespace Go.Proofs.Ytbpgjpopmohbmaa.Mem
open Go.RowKit Go.Proofs.Ytbpgjpopmohbmaa.Nums
set_option linter.unusedVariables false
set_option linter.unusedSimpArgs false
set_option maxRecDepth 100000
set_option maxHeartbeats 4000000
section
variable {w : World} {F : Nat → Prop} {R st c : Nat} {E : List Ent} {A : Option Addr}
theorem rins_full (h : RfA w F R E st A c) (hl : E.length ≤ 127) (hvs : ∀ (i : Nat) (v : Ver) (f : Nat), (E.map Prod.fst)[i]? = some (some (v, f)) → v.d.length ≤ 200) (v : Ver) (A0 : Option Addr) (c0 : Nat) (hv : v.ok) (hs : Sl w w.heap.size 1 A0 v.d.length c0 (u8s v.d)) (hroom : roomL (E.map Prod.fst) < (v.d.length : Int)) :
    Calls Try.prog 64 #[.pointer (some ⟨R, 0, none⟩), tupV v (.slice A0 v.d.length c0)] w fun e w' => e = .returned (.tuple #[.int .i64 0, .int .i64 12]) ∧ Below w.heap.size w w' := by
  have hle := h.le
  unfold maxLen at hle
  have H := Lib.hid h
  have HV := Lib.hid hvs
  have hok := hv.tuOk
  have hd200 := hv.d
  obtain ⟨n, hn⟩ : ∃ n, v.d.length = n := ⟨_, rfl⟩
  rw [hn] at hok hs hroom hd200 ⊢
  have HN := Lib.hid hn
  have HS := Lib.hid hs
  unfold tupV
  obtain ⟨p, hp⟩ : ∃ p : Int, (v.p : Int) - 1 = p := ⟨_, rfl⟩
  obtain ⟨s, hs1⟩ : ∃ s : Int, (v.s : Int) - 1 = s := ⟨_, rfl⟩
  rw [hp, hs1] at hok ⊢
  have HPS := Lib.hid (And.intro hp hs1)
  obtain ⟨b0, hb0⟩ : ∃ b0, w.heap.size = b0 := ⟨_, rfl⟩
  obtain ⟨W1, hW1⟩ : ∃ W1, w.alloc (.cells #[.int .u64 v.r, .int .u64 v.a, .int .u64 v.b, .int .i64 p, .int .i64 s, .slice A0 n c0] 33) = W1 := ⟨_, rfl⟩
  have HT1 : Hid (Blk W1 b0 33 #[.int .u64 v.r, .int .u64 v.a, .int .u64 v.b, .int .i64 p, .int .i64 s, .slice A0 n c0]) := Lib.hid (by rw [← hW1, ← hb0]; exact Blk.new w _ _)
  have HB1 : Hid (Below b0 w W1) := Lib.hid (by rw [← hW1, ← hb0]; exact bel_alloc _ _)
  have HW1 := Lib.hid hW1
  have CR := Lib.hid (rright_any v.r v.a v.b p s A0 n c0 W1)
  rw [hok] at CR
  have HBZ := Lib.hid hb0
  have x0 := HT1.out.cell 0
  have x1 := HT1.out.cell 1
  have x2 := HT1.out.cell 2
  have x3 := HT1.out.cell 3
  have x4 := HT1.out.cell 4
  have x5 := HT1.out.cell 5
  rw [← hW1] at x0 x1 x2 x3 x4 x5
  clear h hvs hs hok hp hs1 hn hW1
  go_enter Try.func64, Try.ntmps64
  rw [hb0]
  go_wp2_with fail
  clear x0 x1 x2 x3 x4 x5
  rw [HW1.out]
  refine CR.out.mono ?_
  rintro e w2 ⟨rfl, hb2⟩
  have HT2 := Lib.hid (Blk.below HT1.out hb2 (Blk.lt HT1.out))
  have HB2 : Hid (Below b0 w w2) := Lib.hid (HB1.out.trans (hb2.mono (Nat.le_of_lt (Blk.lt HT1.out))))
  clear hb2 CR
  go_wp2_with fail
  have H2 := Lib.hid (H.out.below (by rw [HBZ.out]; exact HB2.out))
  obtain ⟨rm, hrm⟩ : ∃ rm, roomL (E.map Prod.fst) = rm := ⟨_, rfl⟩
  have HRM := Lib.hid hrm
  have HRC : Hid (∀ w0, RfA w0 F R E st A c → Calls Try.prog 22 #[.pointer (some ⟨R, 0, none⟩)] w0 fun e w' => e = .returned (.int .i64 rm) ∧ Below w0.heap.size w0 w') := Lib.hid (fun w0 h0 => by have := rroom_any h0 (by omega) HV.out; rwa [HRM.out] at this)
  rw [hrm] at hroom
  have x5 := HT2.out.cell 5
  clear hrm
  go_region_held3 (fun w' => w'.cell? ⟨b0, 5, none⟩ = some (.slice A0 n c0)) (first | go_keep | exact (hb3.cell (p := ⟨b0, 5, none⟩) (Blk.lt HT2.out)).trans (HT2.out.cell 5)) (first | (go_at_call 22; refine (HRC.out _ (RfA.drew H2.out)).mono ?_; rintro e w3 ⟨rfl, hb3⟩))
  have HT3 := Lib.hid (Blk.below (Blk.drew HT2.out) hb3 (Blk.lt HT2.out))
  have HB3 : Hid (Below b0 w w3) := Lib.hid (HB2.out.drew.trans (hb3.mono (Nat.le_of_lt (Blk.lt HT2.out))))
  clear hb3 x5
  go_wp2_with fail
  go_ret2
  exact ⟨rfl, HB3.out⟩

theorem rins_ok (h : RfA w F R E st A c) (hl : E.length ≤ 127) (hst : st ≤ 512) (hvs : ∀ (i : Nat) (v : Ver) (f : Nat), (E.map Prod.fst)[i]? = some (some (v, f)) → v.d.length ≤ 200) (v : Ver) (A0 : Option Addr) (c0 : Nat) (hv : v.ok) (hs : Sl w w.heap.size 1 A0 v.d.length c0 (u8s v.d)) (hroom : ¬ roomL (E.map Prod.fst) < (v.d.length : Int)) :
    Calls Try.prog 64 #[.pointer (some ⟨R, 0, none⟩), tupV v (.slice A0 v.d.length c0)] w fun e w' => e = .returned (.tuple #[.int .i64 (nextL (E.map Prod.fst)), .int .i64 0]) ∧ (∃ E' A' c', E'.map Prod.fst = (insS (E.map Prod.fst) st v).1 ∧ RfA w' (fun g => F g ∨ (w.heap.size ≤ g ∧ g < w'.heap.size)) R E' (insS (E.map Prod.fst) st v).2 A' c') ∧ Turn F w w' := by
  have hle := h.le
  unfold maxLen at hle
  have H := Lib.hid h
  have HV := Lib.hid hvs
  have hok := hv.tuOk
  have hd200 := hv.d
  obtain ⟨n, hn⟩ : ∃ n, v.d.length = n := ⟨_, rfl⟩
  rw [hn] at hok hs hroom hd200 ⊢
  have HN := Lib.hid hn
  have HS := Lib.hid hs
  unfold tupV
  obtain ⟨p, hp⟩ : ∃ p : Int, (v.p : Int) - 1 = p := ⟨_, rfl⟩
  obtain ⟨s, hs1⟩ : ∃ s : Int, (v.s : Int) - 1 = s := ⟨_, rfl⟩
  rw [hp, hs1] at hok ⊢
  have HPS := Lib.hid (And.intro hp hs1)
  obtain ⟨b0, hb0⟩ : ∃ b0, w.heap.size = b0 := ⟨_, rfl⟩
  obtain ⟨W1, hW1⟩ : ∃ W1, w.alloc (.cells #[.int .u64 v.r, .int .u64 v.a, .int .u64 v.b, .int .i64 p, .int .i64 s, .slice A0 n c0] 33) = W1 := ⟨_, rfl⟩
  have HT1 : Hid (Blk W1 b0 33 #[.int .u64 v.r, .int .u64 v.a, .int .u64 v.b, .int .i64 p, .int .i64 s, .slice A0 n c0]) := Lib.hid (by rw [← hW1, ← hb0]; exact Blk.new w _ _)
  have HB1 : Hid (Below b0 w W1) := Lib.hid (by rw [← hW1, ← hb0]; exact bel_alloc _ _)
  have HW1 := Lib.hid hW1
  have CR := Lib.hid (rright_any v.r v.a v.b p s A0 n c0 W1)
  rw [hok] at CR
  have HBZ := Lib.hid hb0
  have x0 := HT1.out.cell 0
  have x1 := HT1.out.cell 1
  have x2 := HT1.out.cell 2
  have x3 := HT1.out.cell 3
  have x4 := HT1.out.cell 4
  have x5 := HT1.out.cell 5
  rw [← hW1] at x0 x1 x2 x3 x4 x5
  clear h hvs hs hok hp hs1 hn hW1
  go_enter Try.func64, Try.ntmps64
  rw [hb0]
  go_wp2_with fail
  clear x0 x1 x2 x3 x4 x5
  rw [HW1.out]
  refine CR.out.mono ?_
  rintro e w2 ⟨rfl, hb2⟩
  have HT2 := Lib.hid (Blk.below HT1.out hb2 (Blk.lt HT1.out))
  have HB2 : Hid (Below b0 w w2) := Lib.hid (HB1.out.trans (hb2.mono (Nat.le_of_lt (Blk.lt HT1.out))))
  clear hb2 CR
  go_wp2_with fail
  have H2 := Lib.hid (H.out.below (by rw [HBZ.out]; exact HB2.out))
  obtain ⟨rm, hrm⟩ : ∃ rm, roomL (E.map Prod.fst) = rm := ⟨_, rfl⟩
  have HRM := Lib.hid hrm
  have HRC : Hid (∀ w0, RfA w0 F R E st A c → Calls Try.prog 22 #[.pointer (some ⟨R, 0, none⟩)] w0 fun e w' => e = .returned (.int .i64 rm) ∧ Below w0.heap.size w0 w') := Lib.hid (fun w0 h0 => by have := rroom_any h0 (by omega) HV.out; rwa [HRM.out] at this)
  rw [hrm] at hroom
  have x5 := HT2.out.cell 5
  clear hrm
  go_region_held3 (fun w' => w'.cell? ⟨b0, 5, none⟩ = some (.slice A0 n c0)) (first | go_keep | exact (hb3.cell (p := ⟨b0, 5, none⟩) (Blk.lt HT2.out)).trans (HT2.out.cell 5)) (first | (go_at_call 22; refine (HRC.out _ (RfA.drew H2.out)).mono ?_; rintro e w3 ⟨rfl, hb3⟩))
  have HT3 := Lib.hid (Blk.below (Blk.drew HT2.out) hb3 (Blk.lt HT2.out))
  have HB3 : Hid (Below b0 w w3) := Lib.hid (HB2.out.drew.trans (hb3.mono (Nat.le_of_lt (Blk.lt HT2.out))))
  clear hb3 x5
  have CC := Lib.hid (copy_any v.d A0 n c0 w3 (HS.out.on (by rw [HBZ.out]; exact HB3.out)) (by omega))
  have x5 := HT3.out.cell 5
  go_wp2_with fail
  clear x5
  refine CC.out.mono ?_
  rintro e w4 ⟨u, rfl, hou, hb4⟩
  obtain ⟨Au, cu, rfl, hsu⟩ := Sl.of_own hou
  have HT4 := Lib.hid (Blk.below HT3.out hb4 (Blk.lt HT3.out))
  have hb04 : b0 ≤ w3.heap.size := Nat.le_of_lt (Blk.lt HT3.out)
  have HB4 : Hid (Below b0 w w4) := Lib.hid (HB3.out.trans (hb4.mono hb04))
  have x5 := HT4.out.cell 5
  have f5 := HT4.out.frozen 5
  obtain ⟨w5, hw5⟩ : ∃ w5, w4.setCell ⟨b0, 5, none⟩ (.slice Au n cu) = w5 := ⟨_, rfl⟩
  have HB5 : Hid (Below b0 w w5) := Lib.hid (by rw [← hw5]; exact HB4.out.setCell (p := ⟨b0, 5, none⟩) (Nat.le_refl _) _)
  have HT5 : Hid (Blk w5 b0 33 #[.int .u64 v.r, .int .u64 v.a, .int .u64 v.b, .int .i64 p, .int .i64 s, .slice Au n cu]) := Lib.hid (by rw [← hw5]; exact Blk.set_ HT4.out 5 _)
  have HU5 : Hid (OwnB w5 (b0 + 1) (.slice Au n cu) n (u8s v.d)) := Lib.hid (by
    have h1 := own_mono hou (show b0 + 1 ≤ w3.heap.size from Blk.lt HT3.out)
    exact own_keep h1 fun k hk => by rw [← hw5]; exact Below.heap_setCell _ _ _ _ (by have := (h1.lt k hk).1; show k ≠ b0; omega))
  have H5 := Lib.hid (H.out.below (by rw [HBZ.out]; exact HB5.out))
  have HW5 := Lib.hid hw5
  clear hou hsu hb4 hw5 CC hb04
  go_upto_region 8 with fail
  clear x5 f5
  rw [HW5.out]
  have x0 := H5.out.blk.cell 0
  have x1 := H5.out.blk.cell 1
  obtain ⟨L, hL⟩ : ∃ L, E.map Prod.fst = L := ⟨_, rfl⟩
  have hLl : L.length = E.length := by rw [← hL, List.length_map]
  have HLL := Lib.hid hL
  clear hL
  go_wp2_with fail
  go_loopw [6, 7] (fun sl i wr => ∃ k m : Nat, k ≤ E.length ∧ i = .int .i64 ((k : Int) - 1) ∧ sl = .int .i64 (slotFrom L k : Nat) ∧ wr = w5.drewN m) (fun _ i _ => (intOf i + 1).toNat)
  case atStart => exact ⟨E.length, 0, Nat.le_refl _, rfl, by rw [← hLl, slotFrom_end], rfl⟩
  case round =>
    obtain ⟨k, m, hk, rfl, rfl, rfl⟩ := hrel
    have H6 := Lib.hid (H5.out.drewN m)
    cases k with
    | succ k =>
      have hkE : k < E.length := by omega
      obtain ⟨⟨o, uu⟩, hek⟩ : ∃ e, E[k]? = some e := ⟨_, List.getElem?_eq_getElem hkE⟩
      obtain ⟨g, cur, rfl, _, _, _, _⟩ := H6.out.arr hkE
      have hLk : L[k]? = some o := by rw [← HLL.out]; exact map_at hek
      have k1 : ((k : Int) + 1 - 1) = k := by omega
      have k2 : (0 : Int) ≤ k := by omega
      have k3 : (k : Int) < E.length := by omega
      cases o with
      | none =>
        obtain ⟨y0, y1, y2, y3, y4, y5, y6, y7⟩ := H6.out.free8 hek rfl
        have HSF := Lib.hid (slotFrom_none hLk)
        clear y1 y2 y3 y4 y5 y6 y7 hek hLk
        go_wp2_with fail
        go_roundw
        case rel => exact ⟨k, m, by omega, by go_num <;> (congr 1; omega), by rw [HSF.out]; (congr 1 <;> omega), rfl⟩
        case measure => simp [intOf]
      | some x =>
        obtain ⟨xv, xf⟩ := x
        obtain ⟨y0, y1, y2, y3, y4, y5, y6, y7⟩ := H6.out.full8 hek rfl
        have HSF := Lib.hid (slotFrom_some hLk)
        clear y1 y2 y3 y4 y5 y6 y7 hek hLk
        go_wp2_with fail
        go_roundw
        case rel => exact ⟨k, m, by omega, by go_num <;> (congr 1; omega), by rw [HSF.out], rfl⟩
        case measure => simp [intOf]
    | zero =>
      rw [slotFrom_zero]
      obtain ⟨q, hq⟩ : ∃ q, nextL L = q := ⟨_, rfl⟩
      have HQ := Lib.hid hq
      have hqle := nextL_le L
      rw [hq] at hqle ⊢
      clear hq
      have hrl := roomL_le (L := L) (n := n) (by rw [← HLL.out, HRM.out]; omega)
      rw [HQ.out] at hrl
      have HU5' : OwnB w5 (b0 + 1) (.slice Au n cu) v.d.length (u8s v.d) := by rw [HN.out]; exact HU5.out
      have HI0 : Hid (RIn w w5 F b0 R E st A c #[.int .u64 v.r, .int .u64 v.a, .int .u64 v.b, .int .i64 p, .int .i64 s, .slice Au n cu] (.slice Au n cu) v.d) := Lib.hid ⟨H5.out.more (fun g hg => .inl hg) (fun g hg => hg.elim (H5.out.lt g) (fun k => k.2)), HT5.out, HU5', Turn.of_below (by rw [HBZ.out]; exact HB5.out), HBZ.out⟩
      clear HU5' x0 x1
      obtain ⟨M, hM⟩ : ∃ M, max L.length (q + 1) = M := ⟨_, rfl⟩
      rw [hM] at hrl
      rcases Nat.lt_or_ge q L.length with hqL | hqL
      · have hML : E.length = M := by omega
        have HE1 : Hid (E.map Prod.fst = L) := HLL
        obtain ⟨L1, hL1⟩ : ∃ L1, L = L1 := ⟨_, rfl⟩
        have HIN := Lib.hid (ins_eq (L := L) (L1 := L1) (st := st) (q := q) (M := M) (v := v) HQ.out hqle (.inl ⟨hqL, hL1.symm⟩) hM)
        rw [hL1] at HE1
        have hEq : ∃ uq, E[q]? = some (none, uq) := by
          have h1 : L[q]? = some none := by have h2 := nextL_free (L := L) (by rw [HQ.out]; exact hqL); rwa [HQ.out] at h2
          rw [← HLL.out, List.getElem?_map] at h1
          cases h3 : E[q]? with
          | none => rw [h3] at h1; cases h1
          | some e =>
            obtain ⟨o, uq⟩ := e
            rw [h3] at h1
            injection h1 with h1
            have h1' : o = none := h1
            subst h1'
            exact ⟨uq, rfl⟩
        obtain ⟨uq, hEq⟩ := hEq
        have HE1Q := Lib.hid hEq
        have hqne : ¬ (q : Int) = E.length := by omega
        have hqM : q < M := by omega
        have HI := Lib.hid (HI0.out.drewN m)
        clear hEq HI0 hL1
        obtain ⟨w9, hw9⟩ : ∃ w9, w5.drewN m = w9 := ⟨_, rfl⟩
        rw [hw9] at HI ⊢
        clear hw9 H5 H6 HT5 HU5 HB5
        have x0 := HI.out.rf.blk.cell 0
        have x1 := HI.out.rf.blk.cell 1
        have x5 := HI.out.box.cell 5
        have f1 := HI.out.rf.blk.frozen 1
        have hz : v.sz = 30 + n := by show 30 + v.d.length = _; rw [HN.out]
        have HENT : Hid (∀ a : Nat, entV (some (v, a), (.slice Au n cu)) = [.bool true, .int .u64 v.r, .int .u64 v.a, .int .u64 v.b, .int .i64 p, .int .i64 s, (.slice Au n cu), .int .i64 a]) := Lib.hid (fun a => by simp only [entV, HPS.out.1, HPS.out.2])
        by_cases hc : st < v.sz + (4 + 4 * M)
        · have HFI := Lib.hid (HIN.out.2.2.1 hc)
          have htl : tot L1 + n ≤ 478 := by rw [HIN.out.2.1]; omega
          have hk1 : (st : Int) - (30 + (n : Int)) < 4 + 4 * (M : Int) := by omega
          rw [hML] at x0
          go_wp2_with fail
          go_quiet (fail)
          clear x5
          go_upto_region 19 with fail
          obtain ⟨w10, hw10⟩ : ∃ w10, (w9.drewN nq).setCell ⟨R, 1, none⟩ (.int .i64 512) = w10 := ⟨_, rfl⟩
          have HJ : Hid (RIn w w10 F b0 R E 512 A c #[.int .u64 v.r, .int .u64 v.a, .int .u64 v.b, .int .i64 p, .int .i64 s, .slice Au n cu] (.slice Au n cu) v.d) := Lib.hid (by rw [← hw10]; exact (HI.out.drewN _).setSt 512)
          rw [hw10]
          clear hw10 x0 x1 f1
          have x0 := HJ.out.rf.blk.cell 0
          rw [hML] at x0
          go_wp2_with fail
          clear x0
          go_loopw [94] (fun i wr => ∃ k : Nat, k ≤ M ∧ i = .int .i64 k ∧ RIn w wr F b0 R (packE E k) (512 - tot (L1.take k)) A c #[.int .u64 v.r, .int .u64 v.a, .int .u64 v.b, .int .i64 p, .int .i64 s, .slice Au n cu] (.slice Au n cu) v.d) (fun i _ => M - (intOf i).toNat)
          case atStart => exact ⟨0, by omega, rfl, by rw [packE_zero]; simpa [tot] using HJ.out⟩
          case round =>
            obtain ⟨k, hk, rfl, hin⟩ := hrel
            have HK := Lib.hid hin
            have hPL : (packE E k).length = M := by rw [packE_len, hML]
            clear hin
            by_cases hlt : k < M
            · have hlt' : (k : Int) < M := by omega
              obtain ⟨⟨o, uu⟩, hek⟩ : ∃ e, (E)[k]? = some e := ⟨_, List.getElem?_eq_getElem (by omega)⟩
              have hpk := packE_at hek
              have hkP : k < (packE E k).length := by rw [hPL]; exact hlt
              obtain ⟨g, cur, hAg, _, _, _, _⟩ := HK.out.rf.arr hkP
              have hLk : L1[k]? = some o := by rw [← HE1.out]; exact map_at hek
              have x0 := HK.out.rf.blk.cell 0
              have x1 := HK.out.rf.blk.cell 1
              have f1 := HK.out.rf.blk.frozen 1
              rw [hPL] at x0
              have hk0 : (0 : Int) ≤ k := by omega
              cases o with
              | none =>
                obtain ⟨y0, y1, y2, y3, y4, y5, y6, y7⟩ := HK.out.rf.free8 hpk hAg
                have HPE := Lib.hid (packE_none hek)
                have HTT : Hid (tot (L1.take (k + 1)) = tot (L1.take k)) := Lib.hid (by rw [tot_take_succ hLk]; rfl)
                subst hAg
                clear hek hpk hLk
                go_wp2_with fail
                go_roundw
                case rel => exact ⟨k + 1, by omega, by go_num, by rw [HPE.out, HTT.out]; exact HK.out.below (bel_alloc _ _)⟩
                case measure => simp [intOf]; omega
              | some x =>
                obtain ⟨xv, xf⟩ := x
                obtain ⟨y0, y1, y2, y3, y4, y5, y6, y7⟩ := HK.out.rf.full8 hpk hAg
                obtain ⟨Ax, cx, rfl, _⟩ := Sl.of_own (HK.out.rf.data k xv xf uu hpk).1
                have z7 := HK.out.rf.frozen hkP hAg (k * 8 + 7)
                have HPE := Lib.hid (packE_some hek)
                have htk : tot (L1.take (k + 1)) = tot (L1.take k) + (30 + xv.d.length) := tot_take_succ hLk
                have htk2 := tot_take_le L1 (k + 1)
                obtain ⟨a1, ha1⟩ : ∃ a1, 512 - tot (L1.take k) = a1 := ⟨_, rfl⟩
                obtain ⟨a2, ha2⟩ : ∃ a2, 512 - tot (L1.take (k + 1)) = a2 := ⟨_, rfl⟩
                have haa : (a1 : Int) - (30 + (xv.d.length : Int)) = a2 := by omega
                rw [HE1.out, ha2] at HPE
                rw [ha1] at HK x1
                have HA2 := Lib.hid ha2
                go_upto_region 22 with fail
                obtain ⟨w20, hw20⟩ : ∃ w20, wr.alloc (.cells #[.bool true, .int .u64 xv.r, .int .u64 xv.a, .int .u64 xv.b, .int .i64 ((xv.p : Int) - 1), .int .i64 ((xv.s : Int) - 1), .slice Ax xv.d.length cx, .int .i64 xf] 122) = w20 := ⟨_, rfl⟩
                obtain ⟨B9, hB9⟩ : ∃ B9, wr.heap.size = B9 := ⟨_, rfl⟩
                have hbx : Blk w20 B9 122 #[.bool true, .int .u64 xv.r, .int .u64 xv.a, .int .u64 xv.b, .int .i64 ((xv.p : Int) - 1), .int .i64 ((xv.s : Int) - 1), .slice Ax xv.d.length cx, .int .i64 xf] := by rw [← hw20, ← hB9]; exact Blk.new wr _ _
                have HK20 := Lib.hid (HK.out.below (bel_alloc wr (.cells #[.bool true, .int .u64 xv.r, .int .u64 xv.a, .int .u64 xv.b, .int .i64 ((xv.p : Int) - 1), .int .i64 ((xv.s : Int) - 1), .slice Ax xv.d.length cx, .int .i64 xf] 122)))
                have HNX := Lib.hid ((HK20.out.setSt a2).put (n := a2) hpk hAg)
                rw [← HPE.out] at HNX
                rw [hw20] at HK20 HNX ⊢
                rw [hB9]
                have b0' := hbx.cell 0
                have b6' := hbx.cell 6
                clear x0 x1 f1 y0 y1 y2 y3 y4 y5 y6 y7 hw20 hB9
                have x0 := HK20.out.rf.blk.cell 0
                have x1 := HK20.out.rf.blk.cell 1
                have f1 := HK20.out.rf.blk.frozen 1
                rw [hPL] at x0
                go_wp2_with fail
                go_region
                clear x0 x1 f1 b0' b6' hbx
                go_upto_region 24 with fail
                obtain ⟨w21, hw21⟩ : ∃ w21, w20.setCell ⟨R, 1, none⟩ (.int .i64 (a2 : Nat)) = w21 := ⟨_, rfl⟩
                have HK21 := Lib.hid (HK20.out.setSt a2)
                rw [hw21] at HK21 HNX ⊢
                clear hw21
                have x0 := HK21.out.rf.blk.cell 0
                have x1 := HK21.out.rf.blk.cell 1
                rw [hPL] at x0
                obtain ⟨y0, y1, y2, y3, y4, y5, y6, y7⟩ := HK21.out.rf.full8 hpk hAg
                have z7 := HK21.out.rf.frozen hkP hAg (k * 8 + 7)
                subst hAg
                clear hek hpk hLk ha2
                go_region
                go_wp2_with fail
                go_roundw
                case rel => exact ⟨k + 1, by omega, by go_num, by rw [HA2.out]; first | exact HNX.out.drewN _ | exact HNX.out.drew | exact HNX.out.drew.drew⟩
                case measure => simp [intOf]; omega
            · obtain rfl : k = M := by omega
              have hpm : (packE E k).map Prod.fst = packL L1 := by rw [← hML, packE_end, HE1.out]
              have HFE : Hid (((packE E k).set q (some (v, 512 - tot L1 - v.sz), (.slice Au n cu))).map Prod.fst = (insS L st v).1) := Lib.hid (by rw [HFI.out, ents_map_set, hpm, HIN.out.2.1])
              have HFS : Hid ((insS L st v).2 = 512 - tot L1 - v.sz) := Lib.hid (by rw [HFI.out, HIN.out.2.1])
              have HE2L : Hid (q < (packE E k).length) := Lib.hid (by rw [hPL]; omega)
              have HE2Q : Hid ((packE E k)[q]? = some (none, uq)) := Lib.hid (by rw [packE_get, HE1Q.out]; simp)
              have hlk : L1.length = k := HIN.out.1
              rw [← hlk, List.take_length] at HK
              rw [hlk] at HK
              have hat : ((512 - tot L1 : Nat) : Int) - (30 + (n : Int)) = ((512 - tot L1 - v.sz : Nat) : Int) := by omega
              obtain ⟨a3, ha3⟩ : ∃ a3, 512 - tot L1 = a3 := ⟨_, rfl⟩
              rw [ha3] at hat HK HFE HFS
              obtain ⟨a4, ha4⟩ : ∃ a4, a3 - v.sz = a4 := ⟨_, rfl⟩
              rw [ha4] at hat HFE HFS
              clear hpm hlk
              have x0 := HK.out.rf.blk.cell 0
              have x1 := HK.out.rf.blk.cell 1
              have f1 := HK.out.rf.blk.frozen 1
              go_upto_region 27 with fail
              clear x0 x1 f1
              obtain ⟨w12, hw12⟩ : ∃ w12, wr.setCell ⟨R, 1, none⟩ (.int .i64 (a4 : Nat)) = w12 := ⟨_, rfl⟩
              have HI3 : Hid (RIn w w12 F b0 R (packE E k) a4 A c #[.int .u64 v.r, .int .u64 v.a, .int .u64 v.b, .int .i64 p, .int .i64 s, .slice Au n cu] (.slice Au n cu) v.d) := Lib.hid (by rw [← hw12]; exact HK.out.setSt _)
              rw [hw12]
              clear hw12
              obtain ⟨g, cur, hAg, _, _, _, _⟩ := HI3.out.rf.arr HE2L.out
              have HAG := Lib.hid hAg
              have HI4 := Lib.hid ((HI3.out.putE (n := a4) (v := v) (e' := (some (v, a4), (.slice Au n cu))) HE2L.out hAg rfl rfl).drew)
              rw [HENT.out a4] at HI4
              obtain ⟨y0, y1, y2, y3, y4, y5, y6, y7⟩ := HI3.out.rf.free8 HE2Q.out hAg
              have z0 := HI3.out.rf.frozen HE2L.out hAg (q * 8)
              have z1 := HI3.out.rf.frozen HE2L.out hAg (q * 8 + 1)
              have z2 := HI3.out.rf.frozen HE2L.out hAg (q * 8 + 2)
              have z3 := HI3.out.rf.frozen HE2L.out hAg (q * 8 + 3)
              have z4 := HI3.out.rf.frozen HE2L.out hAg (q * 8 + 4)
              have z5 := HI3.out.rf.frozen HE2L.out hAg (q * 8 + 5)
              have z6 := HI3.out.rf.frozen HE2L.out hAg (q * 8 + 6)
              have z7 := HI3.out.rf.frozen HE2L.out hAg (q * 8 + 7)
              have x0 := HI3.out.rf.blk.cell 0
              have x1 := HI3.out.rf.blk.cell 1
              have q0 := HI3.out.box.cell 0
              have q1 := HI3.out.box.cell 1
              have q2 := HI3.out.box.cell 2
              have q3 := HI3.out.box.cell 3
              have q4 := HI3.out.box.cell 4
              have q5 := HI3.out.box.cell 5
              have hql := HE2L.out
              have hql' : (q : Int) < ((packE E k)).length := by omega
              have hq0 : (0 : Int) ≤ q := by omega
              subst hAg
              go_region
              all_goals (go_wp2_with fail; go_ret2)
              all_goals refine ⟨by rw [HLL.out, HQ.out]; rfl, ?_, HI4.out.tur⟩
              all_goals exact ⟨((packE E k)).set q (some (v, a4), (.slice Au n cu)), by rw [HLL.out, HFE.out], _, _, by rw [HLL.out, HFS.out]; exact HI4.out.rf⟩
        · have HFI := Lib.hid (HIN.out.2.2.2 hc)
          have hk1 : ¬ (st : Int) - (30 + (n : Int)) < 4 + 4 * (M : Int) := by omega
          have hat : (st : Int) - (30 + (n : Int)) = ((st - v.sz : Nat) : Int) := by omega
          have HFE : Hid (((E).set q (some (v, st - v.sz), (.slice Au n cu))).map Prod.fst = (insS L st v).1) := Lib.hid (by rw [HFI.out, ents_map_set, HE1.out])
          have HFS : Hid ((insS L st v).2 = st - v.sz) := Lib.hid (by rw [HFI.out])
          have HE2L : Hid (q < (E).length) := Lib.hid (by omega)
          have HE2Q := HE1Q
          obtain ⟨a4, ha4⟩ : ∃ a4, st - v.sz = a4 := ⟨_, rfl⟩
          rw [ha4] at hat HFE HFS
          rw [hML] at x0
          have HAT := Lib.hid hat
          clear hat
          go_wp2_with fail
          go_quiet (fail)
          go_upto_region 26 with fail
          clear x0 x1 x5 f1
          have hat := HAT.out
          have HI2 := Lib.hid (HI.out.drewN nq)
          have x0 := HI2.out.rf.blk.cell 0
          have x1 := HI2.out.rf.blk.cell 1
          have f1 := HI2.out.rf.blk.frozen 1
          go_upto_region 27 with fail
          clear x0 x1 f1
          obtain ⟨w12, hw12⟩ : ∃ w12, (w9.drewN nq).setCell ⟨R, 1, none⟩ (.int .i64 (a4 : Nat)) = w12 := ⟨_, rfl⟩
          have HI3 : Hid (RIn w w12 F b0 R E a4 A c #[.int .u64 v.r, .int .u64 v.a, .int .u64 v.b, .int .i64 p, .int .i64 s, .slice Au n cu] (.slice Au n cu) v.d) := Lib.hid (by rw [← hw12]; exact HI2.out.setSt _)
          rw [hw12]
          clear hw12
          obtain ⟨g, cur, hAg, _, _, _, _⟩ := HI3.out.rf.arr HE2L.out
          have HAG := Lib.hid hAg
          have HI4 := Lib.hid ((HI3.out.putE (n := a4) (v := v) (e' := (some (v, a4), (.slice Au n cu))) HE2L.out hAg rfl rfl).drew)
          rw [HENT.out a4] at HI4
          obtain ⟨y0, y1, y2, y3, y4, y5, y6, y7⟩ := HI3.out.rf.free8 HE2Q.out hAg
          have z0 := HI3.out.rf.frozen HE2L.out hAg (q * 8)
          have z1 := HI3.out.rf.frozen HE2L.out hAg (q * 8 + 1)
          have z2 := HI3.out.rf.frozen HE2L.out hAg (q * 8 + 2)
          have z3 := HI3.out.rf.frozen HE2L.out hAg (q * 8 + 3)
          have z4 := HI3.out.rf.frozen HE2L.out hAg (q * 8 + 4)
          have z5 := HI3.out.rf.frozen HE2L.out hAg (q * 8 + 5)
          have z6 := HI3.out.rf.frozen HE2L.out hAg (q * 8 + 6)
          have z7 := HI3.out.rf.frozen HE2L.out hAg (q * 8 + 7)
          have x0 := HI3.out.rf.blk.cell 0
          have x1 := HI3.out.rf.blk.cell 1
          have q0 := HI3.out.box.cell 0
          have q1 := HI3.out.box.cell 1
          have q2 := HI3.out.box.cell 2
          have q3 := HI3.out.box.cell 3
          have q4 := HI3.out.box.cell 4
          have q5 := HI3.out.box.cell 5
          have hql := HE2L.out
          have hql' : (q : Int) < (E).length := by omega
          have hq0 : (0 : Int) ≤ q := by omega
          subst hAg
          go_region
          all_goals (go_wp2_with fail; go_ret2)
          all_goals refine ⟨by rw [HLL.out, HQ.out]; rfl, ?_, HI4.out.tur⟩
          all_goals exact ⟨(E).set q (some (v, a4), (.slice Au n cu)), by rw [HLL.out, HFE.out], _, _, by rw [HLL.out, HFS.out]; exact HI4.out.rf⟩
      · have hqE : q = L.length := by omega
        have hqe : ((q : Int) == (E.length : Int)) = true := by rw [beq_iff_eq]; omega
        have hqN := Lib.hid hqE
        clear hqE
        have HI := Lib.hid (HI0.out.drewN m)
        have x0 := HI0.out.rf.blk.cell 0
        have x1 := HI0.out.rf.blk.cell 1
        clear H5 H6 HT5 HU5 HB5
        go_upto_region 16 with (at_builtin; go_loud (refine wpl_app_slot rfl (.tmp 62) (.tmp 64) rfl 0 _ E.length (ents E) rfl (World.ownsRow.alloc HI.out.rf.own _) _ _ 1 (ents [e0]) rfl (lies_at _ zSlot _ 8 1 w5.heap.size rfl rfl) e0_one (by omega) (Nat.zero_le _) ?_; intro v1 w7 hown1 hg1; obtain ⟨A1, c1, hv1, _⟩ := Sl.of_own hown1; subst hv1; have hb1 : Blk w7 R 45 #[.slice A E.length c, .int .i64 st] := (hg1.1.block R (Blk.lt (Blk.alloc HI.out.rf.blk _)) (own_blk_ne HI.out.rf.own HI.out.rf.blk (by decide)).symm).trans (Blk.alloc HI.out.rf.blk _); have hc0 := hb1.cell 0; have hf0 := hb1.frozen 0))
        have HG := Lib.hid ((HI.out.below (bel_alloc _ (.cells zSlot 122))).grow (e := e0) (fun v f u hh => by cases congrArg Prod.fst hh) hown1 hg1)
        obtain ⟨w9, hw9⟩ : ∃ w9, w7.setCell ⟨R, 0, none⟩ (.slice A1 (E.length + 1) c1) = w9 := ⟨_, rfl⟩
        rw [hw9] at HG ⊢
        clear hw9 hb1 hc0 hf0 hg1 hown1 HI x0 x1 hqe HI0
        have hqE := hqN.out
        rw [show E.length = q by omega]
        obtain ⟨L1, hL1⟩ : ∃ L1, L ++ [none] = L1 := ⟨_, rfl⟩
        have HIN := Lib.hid (ins_eq (L := L) (L1 := L1) (st := st) (q := q) (M := M) (v := v) HQ.out hqle (.inr ⟨hqE, hL1.symm⟩) hM)
        obtain ⟨E1, hE1⟩ : ∃ E1, E ++ [e0] = E1 := ⟨_, rfl⟩
        have HE1 : Hid (E1.map Prod.fst = L1) := Lib.hid (by rw [← hE1, List.map_append, HLL.out, ← hL1]; rfl)
        have hML : E1.length = M := by rw [← hE1, List.length_append]; simp; omega
        have HE1Q : Hid (E1[q]? = some (none, .slice none 0 0)) := Lib.hid (by rw [← hE1, List.getElem?_append_right (by omega), hqE, hLl, Nat.sub_self]; rfl)
        obtain ⟨uq, huq⟩ : ∃ uq, (Value.slice none 0 0) = uq := ⟨_, rfl⟩
        rw [huq] at HE1Q
        rw [hE1] at HG
        have hqM : q < M := by omega
        have HI := HG
        clear hE1 hL1 HG huq hqE
        have x0 := HI.out.rf.blk.cell 0
        have x1 := HI.out.rf.blk.cell 1
        have x5 := HI.out.box.cell 5
        have f1 := HI.out.rf.blk.frozen 1
        have hz : v.sz = 30 + n := by show 30 + v.d.length = _; rw [HN.out]
        have HENT : Hid (∀ a : Nat, entV (some (v, a), (.slice Au n cu)) = [.bool true, .int .u64 v.r, .int .u64 v.a, .int .u64 v.b, .int .i64 p, .int .i64 s, (.slice Au n cu), .int .i64 a]) := Lib.hid (fun a => by simp only [entV, HPS.out.1, HPS.out.2])
        by_cases hc : st < v.sz + (4 + 4 * M)
        · have HFI := Lib.hid (HIN.out.2.2.1 hc)
          have htl : tot L1 + n ≤ 478 := by rw [HIN.out.2.1]; omega
          have hk1 : (st : Int) - (30 + (n : Int)) < 4 + 4 * (M : Int) := by omega
          rw [hML] at x0
          go_wp2_with fail
          go_quiet (fail)
          clear x5
          go_upto_region 19 with fail
          obtain ⟨w10, hw10⟩ : ∃ w10, (w9.drewN nq).setCell ⟨R, 1, none⟩ (.int .i64 512) = w10 := ⟨_, rfl⟩
          have HJ : Hid (RIn w w10 F b0 R E1 512 A1 c1 #[.int .u64 v.r, .int .u64 v.a, .int .u64 v.b, .int .i64 p, .int .i64 s, .slice Au n cu] (.slice Au n cu) v.d) := Lib.hid (by rw [← hw10]; exact (HI.out.drewN _).setSt 512)
          rw [hw10]
          clear hw10 x0 x1 f1
          have x0 := HJ.out.rf.blk.cell 0
          rw [hML] at x0
          go_wp2_with fail
          clear x0
          go_loopw [94] (fun i wr => ∃ k : Nat, k ≤ M ∧ i = .int .i64 k ∧ RIn w wr F b0 R (packE E1 k) (512 - tot (L1.take k)) A1 c1 #[.int .u64 v.r, .int .u64 v.a, .int .u64 v.b, .int .i64 p, .int .i64 s, .slice Au n cu] (.slice Au n cu) v.d) (fun i _ => M - (intOf i).toNat)
          case atStart => exact ⟨0, by omega, rfl, by rw [packE_zero]; simpa [tot] using HJ.out⟩
          case round =>
            obtain ⟨k, hk, rfl, hin⟩ := hrel
            have HK := Lib.hid hin
            have hPL : (packE E1 k).length = M := by rw [packE_len, hML]
            clear hin
            by_cases hlt : k < M
            · have hlt' : (k : Int) < M := by omega
              obtain ⟨⟨o, uu⟩, hek⟩ : ∃ e, (E1)[k]? = some e := ⟨_, List.getElem?_eq_getElem (by omega)⟩
              have hpk := packE_at hek
              have hkP : k < (packE E1 k).length := by rw [hPL]; exact hlt
              obtain ⟨g, cur, hAg, _, _, _, _⟩ := HK.out.rf.arr hkP
              have hLk : L1[k]? = some o := by rw [← HE1.out]; exact map_at hek
              have x0 := HK.out.rf.blk.cell 0
              have x1 := HK.out.rf.blk.cell 1
              have f1 := HK.out.rf.blk.frozen 1
              rw [hPL] at x0
              have hk0 : (0 : Int) ≤ k := by omega
              cases o with
              | none =>
                obtain ⟨y0, y1, y2, y3, y4, y5, y6, y7⟩ := HK.out.rf.free8 hpk hAg
                have HPE := Lib.hid (packE_none hek)
                have HTT : Hid (tot (L1.take (k + 1)) = tot (L1.take k)) := Lib.hid (by rw [tot_take_succ hLk]; rfl)
                subst hAg
                clear hek hpk hLk
                go_wp2_with fail
                go_roundw
                case rel => exact ⟨k + 1, by omega, by go_num, by rw [HPE.out, HTT.out]; exact HK.out.below (bel_alloc _ _)⟩
                case measure => simp [intOf]; omega
              | some x =>
                obtain ⟨xv, xf⟩ := x
                obtain ⟨y0, y1, y2, y3, y4, y5, y6, y7⟩ := HK.out.rf.full8 hpk hAg
                obtain ⟨Ax, cx, rfl, _⟩ := Sl.of_own (HK.out.rf.data k xv xf uu hpk).1
                have z7 := HK.out.rf.frozen hkP hAg (k * 8 + 7)
                have HPE := Lib.hid (packE_some hek)
                have htk : tot (L1.take (k + 1)) = tot (L1.take k) + (30 + xv.d.length) := tot_take_succ hLk
                have htk2 := tot_take_le L1 (k + 1)
                obtain ⟨a1, ha1⟩ : ∃ a1, 512 - tot (L1.take k) = a1 := ⟨_, rfl⟩
                obtain ⟨a2, ha2⟩ : ∃ a2, 512 - tot (L1.take (k + 1)) = a2 := ⟨_, rfl⟩
                have haa : (a1 : Int) - (30 + (xv.d.length : Int)) = a2 := by omega
                rw [HE1.out, ha2] at HPE
                rw [ha1] at HK x1
                have HA2 := Lib.hid ha2
                go_upto_region 22 with fail
                obtain ⟨w20, hw20⟩ : ∃ w20, wr.alloc (.cells #[.bool true, .int .u64 xv.r, .int .u64 xv.a, .int .u64 xv.b, .int .i64 ((xv.p : Int) - 1), .int .i64 ((xv.s : Int) - 1), .slice Ax xv.d.length cx, .int .i64 xf] 122) = w20 := ⟨_, rfl⟩
                obtain ⟨B9, hB9⟩ : ∃ B9, wr.heap.size = B9 := ⟨_, rfl⟩
                have hbx : Blk w20 B9 122 #[.bool true, .int .u64 xv.r, .int .u64 xv.a, .int .u64 xv.b, .int .i64 ((xv.p : Int) - 1), .int .i64 ((xv.s : Int) - 1), .slice Ax xv.d.length cx, .int .i64 xf] := by rw [← hw20, ← hB9]; exact Blk.new wr _ _
                have HK20 := Lib.hid (HK.out.below (bel_alloc wr (.cells #[.bool true, .int .u64 xv.r, .int .u64 xv.a, .int .u64 xv.b, .int .i64 ((xv.p : Int) - 1), .int .i64 ((xv.s : Int) - 1), .slice Ax xv.d.length cx, .int .i64 xf] 122)))
                have HNX := Lib.hid ((HK20.out.setSt a2).put (n := a2) hpk hAg)
                rw [← HPE.out] at HNX
                rw [hw20] at HK20 HNX ⊢
                rw [hB9]
                have b0' := hbx.cell 0
                have b6' := hbx.cell 6
                clear x0 x1 f1 y0 y1 y2 y3 y4 y5 y6 y7 hw20 hB9
                have x0 := HK20.out.rf.blk.cell 0
                have x1 := HK20.out.rf.blk.cell 1
                have f1 := HK20.out.rf.blk.frozen 1
                rw [hPL] at x0
                go_wp2_with fail
                go_region
                clear x0 x1 f1 b0' b6' hbx
                go_upto_region 24 with fail
                obtain ⟨w21, hw21⟩ : ∃ w21, w20.setCell ⟨R, 1, none⟩ (.int .i64 (a2 : Nat)) = w21 := ⟨_, rfl⟩
                have HK21 := Lib.hid (HK20.out.setSt a2)
                rw [hw21] at HK21 HNX ⊢
                clear hw21
                have x0 := HK21.out.rf.blk.cell 0
                have x1 := HK21.out.rf.blk.cell 1
                rw [hPL] at x0
                obtain ⟨y0, y1, y2, y3, y4, y5, y6, y7⟩ := HK21.out.rf.full8 hpk hAg
                have z7 := HK21.out.rf.frozen hkP hAg (k * 8 + 7)
                subst hAg
                clear hek hpk hLk ha2
                go_region
                go_wp2_with fail
                go_roundw
                case rel => exact ⟨k + 1, by omega, by go_num, by rw [HA2.out]; first | exact HNX.out.drewN _ | exact HNX.out.drew | exact HNX.out.drew.drew⟩
                case measure => simp [intOf]; omega
            · obtain rfl : k = M := by omega
              have hpm : (packE E1 k).map Prod.fst = packL L1 := by rw [← hML, packE_end, HE1.out]
              have HFE : Hid (((packE E1 k).set q (some (v, 512 - tot L1 - v.sz), (.slice Au n cu))).map Prod.fst = (insS L st v).1) := Lib.hid (by rw [HFI.out, ents_map_set, hpm, HIN.out.2.1])
              have HFS : Hid ((insS L st v).2 = 512 - tot L1 - v.sz) := Lib.hid (by rw [HFI.out, HIN.out.2.1])
              have HE2L : Hid (q < (packE E1 k).length) := Lib.hid (by rw [hPL]; omega)
              have HE2Q : Hid ((packE E1 k)[q]? = some (none, uq)) := Lib.hid (by rw [packE_get, HE1Q.out]; simp)
              have hlk : L1.length = k := HIN.out.1
              rw [← hlk, List.take_length] at HK
              rw [hlk] at HK
              have hat : ((512 - tot L1 : Nat) : Int) - (30 + (n : Int)) = ((512 - tot L1 - v.sz : Nat) : Int) := by omega
              obtain ⟨a3, ha3⟩ : ∃ a3, 512 - tot L1 = a3 := ⟨_, rfl⟩
              rw [ha3] at hat HK HFE HFS
              obtain ⟨a4, ha4⟩ : ∃ a4, a3 - v.sz = a4 := ⟨_, rfl⟩
              rw [ha4] at hat HFE HFS
              clear hpm hlk
              have x0 := HK.out.rf.blk.cell 0
              have x1 := HK.out.rf.blk.cell 1
              have f1 := HK.out.rf.blk.frozen 1
              go_upto_region 27 with fail
              clear x0 x1 f1
              obtain ⟨w12, hw12⟩ : ∃ w12, wr.setCell ⟨R, 1, none⟩ (.int .i64 (a4 : Nat)) = w12 := ⟨_, rfl⟩
              have HI3 : Hid (RIn w w12 F b0 R (packE E1 k) a4 A1 c1 #[.int .u64 v.r, .int .u64 v.a, .int .u64 v.b, .int .i64 p, .int .i64 s, .slice Au n cu] (.slice Au n cu) v.d) := Lib.hid (by rw [← hw12]; exact HK.out.setSt _)
              rw [hw12]
              clear hw12
              obtain ⟨g, cur, hAg, _, _, _, _⟩ := HI3.out.rf.arr HE2L.out
              have HAG := Lib.hid hAg
              have HI4 := Lib.hid ((HI3.out.putE (n := a4) (v := v) (e' := (some (v, a4), (.slice Au n cu))) HE2L.out hAg rfl rfl).drew)
              rw [HENT.out a4] at HI4
              obtain ⟨y0, y1, y2, y3, y4, y5, y6, y7⟩ := HI3.out.rf.free8 HE2Q.out hAg
              have z0 := HI3.out.rf.frozen HE2L.out hAg (q * 8)
              have z1 := HI3.out.rf.frozen HE2L.out hAg (q * 8 + 1)
              have z2 := HI3.out.rf.frozen HE2L.out hAg (q * 8 + 2)
              have z3 := HI3.out.rf.frozen HE2L.out hAg (q * 8 + 3)
              have z4 := HI3.out.rf.frozen HE2L.out hAg (q * 8 + 4)
              have z5 := HI3.out.rf.frozen HE2L.out hAg (q * 8 + 5)
              have z6 := HI3.out.rf.frozen HE2L.out hAg (q * 8 + 6)
              have z7 := HI3.out.rf.frozen HE2L.out hAg (q * 8 + 7)
              have x0 := HI3.out.rf.blk.cell 0
              have x1 := HI3.out.rf.blk.cell 1
              have q0 := HI3.out.box.cell 0
              have q1 := HI3.out.box.cell 1
              have q2 := HI3.out.box.cell 2
              have q3 := HI3.out.box.cell 3
              have q4 := HI3.out.box.cell 4
              have q5 := HI3.out.box.cell 5
              have hql := HE2L.out
              have hql' : (q : Int) < ((packE E1 k)).length := by omega
              have hq0 : (0 : Int) ≤ q := by omega
              subst hAg
              go_region
              all_goals (go_wp2_with fail; go_ret2)
              all_goals refine ⟨by rw [HLL.out, HQ.out]; rfl, ?_, HI4.out.tur⟩
              all_goals exact ⟨((packE E1 k)).set q (some (v, a4), (.slice Au n cu)), by rw [HLL.out, HFE.out], _, _, by rw [HLL.out, HFS.out]; exact HI4.out.rf⟩
        · have HFI := Lib.hid (HIN.out.2.2.2 hc)
          have hk1 : ¬ (st : Int) - (30 + (n : Int)) < 4 + 4 * (M : Int) := by omega
          have hat : (st : Int) - (30 + (n : Int)) = ((st - v.sz : Nat) : Int) := by omega
          have HFE : Hid (((E1).set q (some (v, st - v.sz), (.slice Au n cu))).map Prod.fst = (insS L st v).1) := Lib.hid (by rw [HFI.out, ents_map_set, HE1.out])
          have HFS : Hid ((insS L st v).2 = st - v.sz) := Lib.hid (by rw [HFI.out])
          have HE2L : Hid (q < (E1).length) := Lib.hid (by omega)
          have HE2Q := HE1Q
          obtain ⟨a4, ha4⟩ : ∃ a4, st - v.sz = a4 := ⟨_, rfl⟩
          rw [ha4] at hat HFE HFS
          rw [hML] at x0
          have HAT := Lib.hid hat
          clear hat
          go_wp2_with fail
          go_quiet (fail)
          go_upto_region 26 with fail
          clear x0 x1 x5 f1
          have hat := HAT.out
          have HI2 := Lib.hid (HI.out.drewN nq)
          have x0 := HI2.out.rf.blk.cell 0
          have x1 := HI2.out.rf.blk.cell 1
          have f1 := HI2.out.rf.blk.frozen 1
          go_upto_region 27 with fail
          clear x0 x1 f1
          obtain ⟨w12, hw12⟩ : ∃ w12, (w9.drewN nq).setCell ⟨R, 1, none⟩ (.int .i64 (a4 : Nat)) = w12 := ⟨_, rfl⟩
          have HI3 : Hid (RIn w w12 F b0 R E1 a4 A1 c1 #[.int .u64 v.r, .int .u64 v.a, .int .u64 v.b, .int .i64 p, .int .i64 s, .slice Au n cu] (.slice Au n cu) v.d) := Lib.hid (by rw [← hw12]; exact HI2.out.setSt _)
          rw [hw12]
          clear hw12
          obtain ⟨g, cur, hAg, _, _, _, _⟩ := HI3.out.rf.arr HE2L.out
          have HAG := Lib.hid hAg
          have HI4 := Lib.hid ((HI3.out.putE (n := a4) (v := v) (e' := (some (v, a4), (.slice Au n cu))) HE2L.out hAg rfl rfl).drew)
          rw [HENT.out a4] at HI4
          obtain ⟨y0, y1, y2, y3, y4, y5, y6, y7⟩ := HI3.out.rf.free8 HE2Q.out hAg
          have z0 := HI3.out.rf.frozen HE2L.out hAg (q * 8)
          have z1 := HI3.out.rf.frozen HE2L.out hAg (q * 8 + 1)
          have z2 := HI3.out.rf.frozen HE2L.out hAg (q * 8 + 2)
          have z3 := HI3.out.rf.frozen HE2L.out hAg (q * 8 + 3)
          have z4 := HI3.out.rf.frozen HE2L.out hAg (q * 8 + 4)
          have z5 := HI3.out.rf.frozen HE2L.out hAg (q * 8 + 5)
          have z6 := HI3.out.rf.frozen HE2L.out hAg (q * 8 + 6)
          have z7 := HI3.out.rf.frozen HE2L.out hAg (q * 8 + 7)
          have x0 := HI3.out.rf.blk.cell 0
          have x1 := HI3.out.rf.blk.cell 1
          have q0 := HI3.out.box.cell 0
          have q1 := HI3.out.box.cell 1
          have q2 := HI3.out.box.cell 2
          have q3 := HI3.out.box.cell 3
          have q4 := HI3.out.box.cell 4
          have q5 := HI3.out.box.cell 5
          have hql := HE2L.out
          have hql' : (q : Int) < (E1).length := by omega
          have hq0 : (0 : Int) ≤ q := by omega
          subst hAg
          go_region
          all_goals (go_wp2_with fail; go_ret2)
          all_goals refine ⟨by rw [HLL.out, HQ.out]; rfl, ?_, HI4.out.tur⟩
          all_goals exact ⟨(E1).set q (some (v, a4), (.slice Au n cu)), by rw [HLL.out, HFE.out], _, _, by rw [HLL.out, HFS.out]; exact HI4.out.rf⟩
end
end Go.Proofs.Ytbpgjpopmohbmaa.Mem
