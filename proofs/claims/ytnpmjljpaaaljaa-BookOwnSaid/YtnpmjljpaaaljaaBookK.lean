/- book.Book: CreateTable. -/
import Derived.Test.YtnpmjljpaaaljaaBookJ
namespace Go.Proofs.Ytnpmjljpaaaljaa.Bok
open Go.ChangeMaps Go.MapKept Go.RowKit Go.Proofs.Ytnpmjljpaaaljaa.Nums Go.Proofs.Ytnpmjljpaaaljaa.Mem Go.Proofs.Ytnpmjljpaaaljaa.Clg
set_option linter.unusedVariables false
set_option linter.unusedSimpArgs false
set_option maxRecDepth 100000
set_option maxHeartbeats 1000000
/-- what CreateTable's error is, of the one column -/
def ctE (f : Nat) (S : List Nat) (s : Sn) (name : ByteArray) (ts : List Tb) (xs : List Ix) : Int := if nameB name = false then 3 else if takE f S s name (ens ts xs) ≠ 0 then takE f S s name (ens ts xs) else if 16 ≤ ts.length then 12 else 0
theorem tak_cases (f : Nat) (S : List Nat) (s : Sn) (name : ByteArray) (es : List En) : takE f S s name es = 7 ∨ takE f S s name es = 11 ∨ takE f S s name es = 0 := by
  unfold takE
  split
  · exact .inl rfl
  · split
    · exact .inr (.inl rfl)
    · exact .inr (.inr rfl)
section
variable {w : World} {F FL : Nat → Prop} {B P f n last d0 c0 : Nat} {S : List Nat} {s : Sn} {ts : List Tb} {xs : List Ix} {name : ByteArray}
theorem ct_no (h : BF w F B ts xs last) (lk : Lk w FL P f S s n) (hl : ts.length ≤ 1000) (hl2 : xs.length ≤ 1000) (hc : Col w d0 c0) (hn : name.size ≤ 1000) {r : Int} (hr : ctE f S s name ts xs = r) (hr0 : r ≠ 0) :
    Calls Try.prog 34 #[.pointer (some ⟨B, 0, none⟩), .pointer (some ⟨P, 0, none⟩), .agg #[.int .u64 (s.own : Int), .int .u64 (s.xmin : Int), .int .u64 (s.xmax : Int), .slice s.A n s.c], .string name, .slice (some ⟨d0, 0, none⟩) 1 c0] w fun e w' => e = .returned (.tuple #[.int .u64 0, .int .i64 r]) ∧ Below w.heap.size w w' := by
  obtain ⟨T, hT⟩ : ∃ T, w.heap.size = T := ⟨_, rfl⟩
  obtain ⟨W1, hW1⟩ : ∃ W1, w.alloc (.cells #[.int .u64 (s.own : Int), .int .u64 (s.xmin : Int), .int .u64 (s.xmax : Int), .slice s.A n s.c] 48) = W1 := ⟨_, rfl⟩
  have hb1 : Below w.heap.size w W1 := by rw [← hW1]; exact bel_alloc _ _
  have hbT : Blk W1 T 48 #[.int .u64 (s.own : Int), .int .u64 (s.xmin : Int), .int .u64 (s.xmax : Int), .slice s.A n s.c] := by rw [← hW1, ← hT]; exact Blk.new w _ _
  have HB1 := Lib.hid hb1
  have HBT := Lib.hid hbT
  have HWS := Lib.hid (And.intro hW1 hT)
  have HR := Lib.hid hr
  have CN := name_any name W1 hn
  by_cases h1 : nameB name = false
  · have hr3 : r = 3 := by rw [← hr]; exact if_pos h1
    subst hr3
    rw [h1] at CN
    have CN := Lib.hid CN
    clear h lk hl hl2 hc hn hr hr0 hb1 hbT hW1 hT h1
    go_enter Try.func34, Try.ntmps34
    go_upto_region 1 with fail
    rw [HWS.out.1, HWS.out.2]
    go_wp2_with fail
    refine CN.out.mono ?_
    rintro e w2 ⟨rfl, rfl⟩
    go_wp2_with fail
    go_ret2
    exact ⟨rfl, HB1.out⟩
  · have h1' : nameB name = true := by cases hh : nameB name with | true => rfl | false => exact absurd hh h1
    rw [h1'] at CN
    have CN := Lib.hid CN
    have CR := Lib.hid (right_one (hc.below hb1))
    have hr2 : r = if takE f S s name (ens ts xs) ≠ 0 then takE f S s name (ens ts xs) else if 16 ≤ ts.length then 12 else 0 := by rw [← hr]; unfold ctE; rw [if_neg h1]
    have CT := fun (W : World) (hW : Below W1.heap.size W1 W) => taken_b ((h.below hb1).below hW) ((lk.below hb1).below hW) hl hl2 name
    obtain ⟨t, ht⟩ : ∃ t, takE f S s name (ens ts xs) = t := ⟨_, rfl⟩
    rw [ht] at CT hr2
    have CT := Lib.hid CT
    obtain ⟨A1, c1, A2, c2, hA⟩ := h
    obtain ⟨m, hm⟩ : ∃ m, ts.length = m := ⟨_, rfl⟩
    have x0 : Hid (∀ W, Below W1.heap.size W1 W → W.cell? ⟨B, 0, none⟩ = some (.slice A1 m c1)) := Lib.hid (fun W hW => by
      have h0 := (hA.blk.below hb1 hA.blk.lt).below hW (Blk.lt (hA.blk.below hb1 hA.blk.lt))
      have := h0.cell 0
      rw [hm] at this
      exact this)
    have hcp := (own_le hA.ownT).2
    have hle := (own_le hA.ownT).1
    unfold maxLen at hcp
    rw [hm] at hr2 hl hle
    clear hA lk hl2 hc hn hr hb1 hbT hW1 hT h1 h1' ht
    by_cases ht0 : t = 0
    · have hr3 : r = 12 ∧ 16 ≤ m := by
        subst ht0
        rw [if_neg (by omega)] at hr2
        split at hr2
        · exact ⟨hr2, by assumption⟩
        · exact absurd hr2 hr0
      obtain ⟨rfl, hm16⟩ := hr3
      subst ht0
      have hm16' : (16 : Int) ≤ m := by omega
      have q0 : ((0 : Int) != 0) = false := rfl
      clear hr2 hr0 hm16
      go_enter Try.func34, Try.ntmps34
      go_upto_region 1 with fail
      rw [HWS.out.1, HWS.out.2]
      go_wp2_with fail
      refine CN.out.mono ?_
      rintro e w2 ⟨rfl, rfl⟩
      go_wp2_with fail
      refine CR.out.mono ?_
      rintro e w3 ⟨rfl, hb3⟩
      have CT3 := Lib.hid (CT.out w3 hb3)
      obtain ⟨t0, t1, t2, t3⟩ := cells4 (HBT.out.below hb3 HBT.out.lt)
      have HB3 := Lib.hid hb3
      clear hb3
      go_wp2_with fail
      refine CT3.out.mono ?_
      rintro e w4 ⟨rfl, hb4⟩
      have hb14 : Below W1.heap.size W1 w4 := HB3.out.trans (hb4.mono HB3.out.size)
      have y0 := x0.out w4 hb14
      have HB4 := Lib.hid hb14
      clear hb4 hb14 t0 t1 t2 t3
      go_wp2_with fail
      go_ret2
      exact ⟨rfl, HB1.out.trans (HB4.out.mono HB1.out.size)⟩
    · have hr3 : r = t := by rw [hr2, if_pos ht0]
      subst hr3
      have q0 : (r != 0) = true := by rw [bne_iff_ne]; exact ht0
      clear hr2 hr0
      go_enter Try.func34, Try.ntmps34
      go_upto_region 1 with fail
      rw [HWS.out.1, HWS.out.2]
      go_wp2_with fail
      refine CN.out.mono ?_
      rintro e w2 ⟨rfl, rfl⟩
      go_wp2_with fail
      refine CR.out.mono ?_
      rintro e w3 ⟨rfl, hb3⟩
      have CT3 := Lib.hid (CT.out w3 hb3)
      obtain ⟨t0, t1, t2, t3⟩ := cells4 (HBT.out.below hb3 HBT.out.lt)
      have HB3 := Lib.hid hb3
      clear hb3
      go_wp2_with fail
      refine CT3.out.mono ?_
      rintro e w4 ⟨rfl, hb4⟩
      have HB4 := Lib.hid (HB3.out.trans (hb4.mono HB3.out.size))
      clear hb4 t0 t1 t2 t3
      go_wp2_with fail
      go_ret2
      exact ⟨rfl, HB1.out.trans (HB4.out.mono HB1.out.size)⟩
/-- a table is made -/
def CtP (w : World) (F : Nat → Prop) (B : Nat) (ts : List Tb) (xs : List Ix) (last : Nat) (name : ByteArray) (own : Nat) (e : Ending) (w' : World) : Prop := ∃ g d c, e = .returned (.tuple #[.int .u64 ((last + 1 : Nat) : Int), .int .i64 0]) ∧ BF w' (New F w w') B (ts ++ [⟨⟨g, last + 1, name, own, 0⟩, d, c⟩]) xs (last + 1) ∧ Turn F w w'
theorem ct_yes (h : BF w F B ts xs last) (lk : Lk w FL P f S s n) (hl : ts.length ≤ 1000) (hl2 : xs.length ≤ 1000) (hc : Col w d0 c0) (hn : name.size ≤ 1000) (hr : ctE f S s name ts xs = 0) (hso : s.own < 18446744073709551616) (hlast : last ≤ 999999) :
    Calls Try.prog 34 #[.pointer (some ⟨B, 0, none⟩), .pointer (some ⟨P, 0, none⟩), .agg #[.int .u64 (s.own : Int), .int .u64 (s.xmin : Int), .int .u64 (s.xmax : Int), .slice s.A n s.c], .string name, .slice (some ⟨d0, 0, none⟩) 1 c0] w (CtP w F B ts xs last name s.own) := by
  obtain ⟨T, hT⟩ : ∃ T, w.heap.size = T := ⟨_, rfl⟩
  obtain ⟨W1, hW1⟩ : ∃ W1, w.alloc (.cells #[.int .u64 (s.own : Int), .int .u64 (s.xmin : Int), .int .u64 (s.xmax : Int), .slice s.A n s.c] 48) = W1 := ⟨_, rfl⟩
  have hb1 : Below w.heap.size w W1 := by rw [← hW1]; exact bel_alloc _ _
  have hbT : Blk W1 T 48 #[.int .u64 (s.own : Int), .int .u64 (s.xmin : Int), .int .u64 (s.xmax : Int), .slice s.A n s.c] := by rw [← hW1, ← hT]; exact Blk.new w _ _
  have HB1 := Lib.hid hb1
  have HBT := Lib.hid hbT
  have HWS := Lib.hid (And.intro hW1 hT)
  have CN := name_any name W1 hn
  have h1' : nameB name = true := by
    cases hh : nameB name with
    | true => rfl
    | false => unfold ctE at hr; rw [if_pos hh] at hr; cases hr
  have h2' : takE f S s name (ens ts xs) = 0 ∧ ¬ 16 ≤ ts.length := by
    unfold ctE at hr
    rw [if_neg (by rw [h1']; simp)] at hr
    split at hr
    · rename_i hne; exact absurd hr hne
    · rename_i hne
      split at hr
      · cases hr
      · exact ⟨Classical.not_not.1 hne, by assumption⟩
  obtain ⟨ht0, hm16⟩ := h2'
  rw [h1'] at CN
  have CN := Lib.hid CN
  have CR := Lib.hid (right_one (hc.below hb1))
  have CT := fun (W : World) (hW : Below W1.heap.size W1 W) => taken_b ((h.below hb1).below hW) ((lk.below hb1).below hW) hl hl2 name
  rw [ht0] at CT
  have CT := Lib.hid CT
  have HFL := Lib.hid h.lt
  obtain ⟨A1, c1, A2, c2, hA⟩ := h
  obtain ⟨m, hm⟩ : ∃ m, ts.length = m := ⟨_, rfl⟩
  have HA := Lib.hid hA
  have HM := Lib.hid hm
  have HCL := Lib.hid (hc.below hb1)
  have hcp := (own_le hA.ownT).2
  have hle := (own_le hA.ownT).1
  unfold maxLen at hcp
  rw [hm] at hle hm16
  have hm16' : ¬ (16 : Int) ≤ m := by omega
  have HSO := Lib.hid (And.intro hso hlast)
  have q0 : ((0 : Int) != 0) = false := rfl
  clear hA lk hl hl2 hc hn hr hb1 hbT hW1 hT h1' ht0 hm hso hlast
  go_enter Try.func34, Try.ntmps34
  go_upto_region 1 with fail
  rw [HWS.out.1, HWS.out.2]
  go_wp2_with fail
  refine CN.out.mono ?_
  rintro e w2 ⟨rfl, rfl⟩
  go_wp2_with fail
  refine CR.out.mono ?_
  rintro e w3 ⟨rfl, hb3⟩
  have CT3 := Lib.hid (CT.out w3 hb3)
  obtain ⟨t0, t1, t2, t3⟩ := cells4 (HBT.out.below hb3 HBT.out.lt)
  have HB3 := Lib.hid hb3
  clear hb3
  go_wp2_with fail
  refine CT3.out.mono ?_
  rintro e w4 ⟨rfl, hb4⟩
  have hb14 : Below w.heap.size w w4 := HB1.out.trans ((HB3.out.trans (hb4.mono HB3.out.size)).mono HB1.out.size)
  have HBT4 := Lib.hid (HBT.out.below (HB3.out.trans (hb4.mono HB3.out.size)) HBT.out.lt)
  have HCL4 := Lib.hid (HCL.out.below (HB3.out.trans (hb4.mono HB3.out.size)))
  have HA4 := Lib.hid (HA.out.keep (fun g hg => hb14.block g (HA.out.lt g hg)) hb14.size)
  have HB4 := Lib.hid hb14
  have y0 : w4.cell? ⟨B, 0, none⟩ = some (.slice A1 m c1) := by have := HA4.out.blk.cell 0; rw [HM.out] at this; exact this
  obtain ⟨u0, u1, u2, u3⟩ := cells4 HBT4.out
  have HW4 : Hid (w.heap.size ≤ w4.heap.size) := Lib.hid hb14.size
  clear hb4 hb14 t0 t1 t2 t3 HB3 HB1 HBT HCL HA CT CT3 CR CN
  have hce := enter_b HA4.out.blk HSO.out.2 s.own name
  obtain ⟨L, hL⟩ : ∃ L, last + 1 = L := ⟨_, rfl⟩
  rw [hL] at hce
  have HL := Lib.hid hL
  have CE := Lib.hid hce
  clear hce hL
  go_wp2_with fail
  refine CE.out.mono ?_
  rintro e w5 ⟨rfl, hblk5, ht5⟩
  have HCL5 := Lib.hid (HCL4.out.keep (by
    obtain ⟨cs, hcs⟩ := HCL4.out.bk
    exact ht5.block d0 hcs.lt (hcs.ne_ HA4.out.blk (by decide))) ht5.size)
  have hLb : L ≤ 1000000 := by have := HL.out; have := HSO.out.2; omega
  have HA5 : Hid (BA w5 F B ts xs L A1 c1 A2 c2) := Lib.hid (HA4.out.anew (TF.turn1 HA4.out.blk ht5 (l := [129]) (by simp)) (by decide) (by decide) (by decide) ht5.size hblk5 (own_keep HA4.out.ownT fun q hq => ht5.block q (HA4.out.ownT.lt q hq).2 (fun e2 => own_blk_ne HA4.out.ownT HA4.out.blk (by decide) (by rw [hq, e2]))) (own_keep HA4.out.ownX fun q hq => ht5.block q (HA4.out.ownX.lt q hq).2 (fun e2 => own_blk_ne HA4.out.ownX HA4.out.blk (by decide) (by rw [hq, e2]))) (fun _ hq => hq) (fun q hq => Nat.lt_of_lt_of_le (HA4.out.lt q hq) ht5.size) HA4.out.f1 HA4.out.f2 hLb)
  have HT5 : Hid (Turn F w w5) := Lib.hid (Turn.trans (Turn.of_below HB4.out) (ht5.mono fun q _ e2 => by rw [e2]; exact HA4.out.fB))
  have HWW : Hid (w.heap.size ≤ w5.heap.size) := Lib.hid (Nat.le_trans HW4.out ht5.size)
  have CC := Lib.hid (clonec_any HCL5.out)
  clear hblk5 ht5 HA4 HB4 HBT4 HCL4 CE y0 u0 u1 u2 u3
  go_wp2_with fail
  refine CC.out.mono ?_
  rintro e w6 ⟨d, c, rfl, hcol6, hd6, hb6⟩
  obtain ⟨g, hg⟩ : ∃ g, w6.heap.size = g := ⟨_, rfl⟩
  obtain ⟨w7, hw7⟩ : ∃ w7, w6.alloc (.cells #[.int .u64 (L : Int), .string name, .int .u64 (s.own : Int), .int .u64 0, .slice (some ⟨d, 0, none⟩) 1 c] 141) = w7 := ⟨_, rfl⟩
  have hb67 : Below w6.heap.size w6 w7 := by rw [← hw7]; exact bel_alloc _ _
  have hb57 : Below w5.heap.size w5 w7 := hb6.trans (hb67.mono hb6.size)
  have HA7 := Lib.hid (HA5.out.keep (fun q hq => hb57.block q (HA5.out.lt q hq)) hb57.size)
  have HC7 := Lib.hid (hcol6.below hb67)
  have HG7 : Hid (Blk w7 g 141 (Tb.cells ⟨⟨g, L, name, s.own, 0⟩, d, c⟩)) := Lib.hid (by rw [← hw7, ← hg]; exact Blk.new w6 _ _)
  have HT7 : Hid (Turn F w w7) := Lib.hid (Turn.trans HT5.out (Turn.of_below hb57))
  have HGE : Hid (w5.heap.size ≤ d ∧ d < g ∧ w5.heap.size ≤ g ∧ ∀ q, F q → q < g) := Lib.hid ⟨hd6, by rw [← hg]; exact hcol6.lt, by rw [← hg]; exact hb6.size, fun q hq => by rw [← hg]; exact Nat.lt_of_lt_of_le (HA5.out.lt q hq) hb6.size⟩
  have HWG := Lib.hid (And.intro hw7 hg)
  clear hcol6 hd6 hb6 hg hw7 hb67 hb57 CC HCL5 HT5
  go_upto_region 11 with fail
  rw [HWG.out.1, HWG.out.2]
  have y0 : w7.cell? ⟨B, 0, none⟩ = some (.slice A1 m c1) := by have := HA7.out.blk.cell 0; rw [HM.out] at this; exact this
  have O7 : Hid (w7.ownsRow 0 132 1 (.slice A1 m c1) m (ptrs (gsT ts))) := Lib.hid (by have := HA7.out.ownT; rwa [HM.out] at this)
  go_upto_region 12 with (at_builtin; go_loud (refine wpl_app_pt rfl (.tmp 51) (.tmp 53) rfl 0 _ m (ptrs (gsT ts)) rfl (World.ownsRow.alloc O7.out _) _ _ 1 (ptrs [g]) rfl (lies_at _ #[.pointer (some ⟨g, 0, none⟩)] _ 1 1 w7.heap.size rfl rfl) (ptrs_one _) (by omega) (by omega) ?_; intro v1 w9 hown1 hg1; obtain ⟨A8, c8, hv1, _⟩ := Sl.of_own hown1; subst hv1; have hB9 := TF.kin (World.ownsRow.alloc O7.out _) hg1 (l := [132]) (by simp) B _ _ (Blk.alloc HA7.out.blk _) (by decide); have z0 := hB9.cell 0; have f0 := hB9.frozen 0; have HG9 := Lib.hid (TF.kin (World.ownsRow.alloc O7.out _) hg1 (l := [132]) (by simp) g _ _ (Blk.alloc HG7.out _) (by decide)); have HB9 := Lib.hid hB9; clear hB9))
  obtain ⟨w8, hw8⟩ : ∃ w8, w7.alloc (.cells #[.pointer (some ⟨g, 0, none⟩)] 132) = w8 := ⟨_, rfl⟩
  rw [hw8] at hg1
  have hb78 : Below w7.heap.size w7 w8 := by rw [← hw8]; exact bel_alloc _ _
  have hA8 := HA7.out.keep (fun q hq => hb78.block q (HA7.out.lt q hq)) hb78.size
  have hown2 : w9.ownsRow 0 132 1 (.slice A8 (ts.length + 1) c8) (ts.length + 1) (ptrs (gsT ts) ++ ptrs [g]) := by rw [HM.out]; exact hown1
  have hg2 : Kin w8 w9 (.slice A1 ts.length c1) (.slice A8 (ts.length + 1) c8) := by rw [HM.out]; exact hg1
  obtain ⟨w10, hw10⟩ : ∃ w10, w9.setCell ⟨B, 0, none⟩ (.slice A8 (m + 1) c8) = w10 := ⟨_, rfl⟩
  have hsz10 : w10.heap.size = w9.heap.size := by rw [← hw10]; simp [World.setCell]
  have hT8 : Turn F w w8 := Turn.trans HT7.out (Turn.of_below hb78)
  have hT9 : Turn F w w9 := hT8.kin hg2 (fun q hq => .inl (hA8.f1 q hq))
  have hT10 : Turn F w w10 := by rw [← hw10]; exact hT9.set_ (p := ⟨B, 0, none⟩) (.inl HA7.out.fB) _
  have hsz9 : w8.heap.size ≤ w9.heap.size := hg1.size
  have hg8 : g < w8.heap.size := Nat.lt_of_lt_of_le HG7.out.lt hb78.size
  have hww5 : w.heap.size ≤ g := by
    have := HGE.out.2.2.1
    have := HWW.out
    omega
  have hBA : BA w10 (New F w w10) B (ts ++ [⟨⟨g, L, name, s.own, 0⟩, d, c⟩]) xs L A8 c8 A2 c2 := by
    have := hA8.addT (w' := w9) (G := New F w w10) (t := ⟨⟨g, L, name, s.own, 0⟩, d, c⟩) (Blk.below HG7.out hb78 HG7.out.lt) ⟨by show L ≤ 1000000; exact hLb, HSO.out.1, by show 0 < 18446744073709551616; omega⟩ (HC7.out.below hb78) (fun i u hu => by have := HGE.out.2.2.2 _ (HA7.out.fT i u hu).1; show u.e.g ≠ g; omega) hown2 hg2 (fun q hq => by
      rcases hq with hq | rfl | rfl | ⟨h1, h2⟩
      · exact .inl hq
      · exact .inr ⟨hww5, by rw [hsz10]; exact Nat.lt_of_lt_of_le hg8 hsz9⟩
      · refine .inr ⟨?_, by rw [hsz10]; exact Nat.lt_of_lt_of_le (Nat.lt_trans HGE.out.2.1 hg8) hsz9⟩
        exact Nat.le_trans HWW.out HGE.out.1
      · exact .inr ⟨Nat.le_trans hT8.size h1, by rw [hsz10]; exact h2⟩) (fun q hq => by
      rcases hq with hq | hq
      · exact Nat.lt_of_lt_of_le (HA7.out.lt q hq) (Nat.le_trans hb78.size hsz9)
      · rw [← hsz10]; exact hq.2)
    rw [HM.out, hw10] at this
    exact this
  have HBA := Lib.hid hBA
  have HT10 := Lib.hid hT10
  have hg10 : Blk w10 g 141 (Tb.cells ⟨⟨g, L, name, s.own, 0⟩, d, c⟩) := by
    rw [← hw10]
    exact (RowKit.Below.heap_setCell w9 ⟨B, 0, none⟩ _ g (HG9.out.ne_ HB9.out (by decide))).trans HG9.out
  rw [hw10]
  have v0 : w10.cell? ⟨g, 0, none⟩ = some (.int .u64 (L : Int)) := hg10.cell 0
  clear hown1 hg1 hown2 hg2 hw8 hw10 hb78 hA8 hsz10 hT8 hT9 hT10 hsz9 hg8 hww5 hBA hg10 z0 f0 y0
  go_wp2_with fail
  go_ret2
  refine ⟨g, d, c, ?_, ?_, HT10.out⟩
  · rw [HL.out]; rfl
  · rw [HL.out]; exact ⟨A8, c8, A2, c2, HBA.out⟩
end
end Go.Proofs.Ytnpmjljpaaaljaa.Bok
