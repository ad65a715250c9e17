/- book.Book: CreateIndex, where it makes one. -/
import Derived.Test.YtnpmjljpaaaljaaBookU
import Derived.Test.YtnpmjljpaaaljaaBookR
namespace Go.Proofs.Ytnpmjljpaaaljaa.Bok
open Go.ChangeMaps Go.MapKept Go.RowKit Go.Proofs.Ytnpmjljpaaaljaa.Nums Go.Proofs.Ytnpmjljpaaaljaa.Mem Go.Proofs.Ytnpmjljpaaaljaa.Clg
set_option linter.unusedVariables false
set_option linter.unusedSimpArgs false
set_option maxRecDepth 100000
set_option maxHeartbeats 1000000
section
variable {w w' : World} {F G : Nat → Prop} {B last last' : Nat} {ts ts' : List Tb} {xs xs' : List Ix} {A1 A2 : Option Addr} {c1 c2 : Nat}
/-- one index more -/
theorem BA.addX (h : BA w F B ts xs last A1 c1 A2 c2) {x : Ix} (hb : Blk w x.e.g 149 x.cells) (ho : x.e.ok) (hn : ∀ (i : Nat) (u : Ix), xs[i]? = some u → u.e.g ≠ x.e.g)
    {A' : Option Addr} {c' : Nat} (hown : w'.ownsRow 0 146 1 (.slice A' (xs.length + 1) c') (xs.length + 1) (ptrs (gsX xs) ++ ptrs [x.e.g])) (hk : Kin w w' (.slice A2 xs.length c2) (.slice A' (xs.length + 1) c'))
    (hG : ∀ g, F g ∨ g = x.e.g ∨ (w.heap.size ≤ g ∧ g < w'.heap.size) → G g) (hlt : ∀ g, G g → g < w'.heap.size) : BA (w'.setCell ⟨B, 1, none⟩ (.slice A' (xs.length + 1) c')) G B ts (xs ++ [x]) last A1 c1 A' c' := by
  have e1 : (xs ++ [x]).length = xs.length + 1 := by simp
  have hl : TF w w' [146] := TF.kin h.ownX hk (by simp)
  have hB : Blk w' B 129 _ := hl _ _ _ h.blk (by decide)
  have hset : TF w' (w'.setCell ⟨B, 1, none⟩ (.slice A' (xs.length + 1) c')) [146, 129] := TF.set hB (by simp) 1 _
  have hall : TF w (w'.setCell ⟨B, 1, none⟩ (.slice A' (xs.length + 1) c')) [146, 129] := TF.trans (TF.kin h.ownX hk (by simp)) hset
  have hsz : (w'.setCell ⟨B, 1, none⟩ (.slice A' (xs.length + 1) c')).heap.size = w'.heap.size := by simp [World.setCell]
  have hT : w'.ownsRow 0 132 1 (.slice A1 ts.length c1) ts.length (ptrs (gsT ts)) := own_keep h.ownT fun g hg => by
    rcases h.ownT.2 with ⟨q1, _⟩ | ⟨g', cap, cur, q1, _, q3, _⟩
    · rw [q1] at hg; simp [Value.ownBlock] at hg
    · rw [q1] at hg
      have : g' = g := by simpa [Value.ownBlock] using hg
      subst this
      exact (hl _ _ _ q3 (by decide)).trans q3.symm
  have keepB : ∀ {e : TypeId} {v : Value} {n : Nat} {ys : List Value}, e ≠ 129 → w'.ownsRow 0 e 1 v n ys → (w'.setCell ⟨B, 1, none⟩ (.slice A' (xs.length + 1) c')).ownsRow 0 e 1 v n ys := fun he hy => own_keep hy fun g hg => RowKit.Below.heap_setCell _ _ _ _ (fun e2 => own_blk_ne hy hB he (by rw [hg, e2]))
  have hXb : ∀ (i : Nat) (u : Ix), (xs ++ [x])[i]? = some u → xs[i]? = some u ∨ (i = xs.length ∧ u = x) := by
    intro i u hi
    by_cases e : i < xs.length
    · rw [List.getElem?_append_left e] at hi; exact .inl hi
    · rw [List.getElem?_append_right (by omega)] at hi
      cases hq : i - xs.length with
      | zero => rw [hq] at hi; simp at hi; exact .inr ⟨by omega, hi.symm⟩
      | succ k => rw [hq] at hi; simp at hi
  have hcol : ∀ {d c : Nat}, Col w d c → Col (w'.setCell ⟨B, 1, none⟩ (.slice A' (xs.length + 1) c')) d c := fun k => by
    obtain ⟨cs, hc⟩ := k.bk
    exact k.keep ((hall _ _ _ hc (by decide)).trans hc.symm) (by rw [hsz]; exact hk.size)
  refine ⟨?_, keepB (by decide) hT, ?_, fun i u hi => ?_, fun i u hi => ?_, h.apT, fun i j u v hi hj hne => ?_, hG _ (.inl h.fB), fun g hg => hG _ (.inl (h.f1 g hg)), fun g hg => ?_, fun i u hi => ⟨hG _ (.inl (h.fT i u hi).1), hG _ (.inl (h.fT i u hi).2)⟩, fun i u hi => ?_, fun g hg => by rw [hsz]; exact hlt g hg, h.top⟩
  · rw [e1]; exact Blk.set_ hB 1 _
  · rw [e1]
    have e2 : ptrs (gsX (xs ++ [x])) = ptrs (gsX xs) ++ ptrs [x.e.g] := by rw [← ptrs_app]; simp [gsX]
    rw [e2]
    exact keepB (by decide) hown
  · obtain ⟨k1, k2, k3⟩ := h.tb i u hi
    exact ⟨hall _ _ _ k1 (by decide), k2, hcol k3⟩
  · rcases hXb i u hi with hi | ⟨_, rfl⟩
    · exact ⟨hall _ _ _ (h.ix i u hi).1 (by decide), (h.ix i u hi).2⟩
    · exact ⟨hall _ _ _ hb (by decide), ho⟩
  · rcases hXb i u hi with h8 | ⟨h5, h7⟩
    · rcases hXb j v hj with h9 | ⟨_, h7⟩
      · exact h.apX i j u v h8 h9 hne
      · rw [h7]; exact hn i u h8
    · rcases hXb j v hj with h9 | ⟨h6, _⟩
      · rw [h7]; exact (hn j v h9).symm
      · omega
  · rw [e1] at hg
    rcases hk.2 with q | ⟨g', q, hg'⟩
    · exact hG _ (.inl (h.f2 g (by rw [← q]; exact hg)))
    · rw [hg] at q
      injection q with q
      subst q
      exact hG _ (.inr (.inr ⟨hg', (hown.lt g hg).2⟩))
  · rcases hXb i u hi with hi | ⟨_, rfl⟩
    · exact hG _ (.inl (h.fX i u hi))
    · exact hG _ (.inr (.inl rfl))
end
theorem heap_six {w : World} {g T : Nat} {v0 v1 v2 v3 v4 v5 : Value} (hn : g ≠ T) :
    ((((((w.setCell ⟨T, 0, none⟩ v0).setCell ⟨T, 1, none⟩ v1).setCell ⟨T, 2, none⟩ v2).setCell ⟨T, 3, none⟩ v3).setCell ⟨T, 4, none⟩ v4).setCell ⟨T, 5, none⟩ v5).heap[g]? = w.heap[g]? := by
  rw [RowKit.Below.heap_setCell _ _ _ _ hn, RowKit.Below.heap_setCell _ _ _ _ hn, RowKit.Below.heap_setCell _ _ _ _ hn, RowKit.Below.heap_setCell _ _ _ _ hn, RowKit.Below.heap_setCell _ _ _ _ hn, RowKit.Below.heap_setCell _ _ _ _ hn]
theorem size_six {w : World} {T : Nat} {v0 v1 v2 v3 v4 v5 : Value} :
    ((((((w.setCell ⟨T, 0, none⟩ v0).setCell ⟨T, 1, none⟩ v1).setCell ⟨T, 2, none⟩ v2).setCell ⟨T, 3, none⟩ v3).setCell ⟨T, 4, none⟩ v4).setCell ⟨T, 5, none⟩ v5).heap.size = w.heap.size := by simp [World.setCell]
theorem ci_ret {w : World} {T : Nat} {v0 v1 v2 v3 v4 v5 q : Value} {tmps : Array Value} (h : Blk w T 87 #[v0, v1, v2, v3, v4, v5]) (h4 : tmps.getD 12 undef = .pointer (some ⟨T, 0, none⟩)) (h5 : tmps.getD 13 undef = q) :
    (results Try.f39 tmps).run Try.prog w = .ok (.tuple #[.agg #[v0, v1, v2, v3, v4, v5], q]) w := by
  have x0 := h.cell 0
  have x1 := h.cell 1
  have x2 := h.cell 2
  have x3 := h.cell 3
  have x4 := h.cell 4
  have x5 := h.cell 5
  have g4 : tmps[12]?.getD undef = .pointer (some ⟨T, 0, none⟩) := by simpa using h4
  have g5 : tmps[13]?.getD undef = q := by simpa using h5
  simp at x0 x1 x2 x3 x4 x5
  simp [results, Try.results39, go_sem, g4, g5, x0, x1, x2, x3, x4, x5]
/-- an index is made -/
def CiP (w : World) (F : Nat → Prop) (B : Nat) (ts : List Tb) (xs : List Ix) (last : Nat) (name : ByteArray) (own tid : Nat) (e : Ending) (w' : World) : Prop := ∃ g, e = .returned (.tuple #[.agg #[.int .u64 ((last + 1 : Nat) : Int), .string name, .int .u64 (tid : Int), .int .i64 0, .int .u64 (own : Int), .int .u64 0], .int .i64 0]) ∧ BF w' (New F w w') B ts (xs ++ [⟨⟨g, last + 1, name, own, 0⟩, tid, 0⟩]) (last + 1) ∧ Turn F w w'
section
variable {w : World} {F FL : Nat → Prop} {B P f n last : Nat} {S : List Nat} {s : Sn} {ts : List Tb} {xs : List Ix} {name tn : ByteArray}
theorem ci_yes (h : BF w F B ts xs last) (lk : Lk w FL P f S s n) (hl : ts.length ≤ 1000) (hl2 : xs.length ≤ 15) {t : Tb} (hf : fnd f S s tn ts = some t) (hn : name.size ≤ 1000) (h1' : nameB name = true) (ht0 : takE f S s name (ens ts xs) = 0) (hso : s.own < 18446744073709551616) (hlast : last ≤ 999999) :
    Calls Try.prog 39 #[.pointer (some ⟨B, 0, none⟩), .pointer (some ⟨P, 0, none⟩), .agg #[.int .u64 (s.own : Int), .int .u64 (s.xmin : Int), .int .u64 (s.xmax : Int), .slice s.A n s.c], .string name, .string tn, .string sA] w (CiP w F B ts xs last name s.own t.e.id) := by
  obtain ⟨T, hT⟩ : ∃ T, w.heap.size = T := ⟨_, rfl⟩
  obtain ⟨W1, hW1⟩ : ∃ W1, w.alloc (.cells #[.int .u64 (s.own : Int), .int .u64 (s.xmin : Int), .int .u64 (s.xmax : Int), .slice s.A n s.c] 48) = W1 := ⟨_, rfl⟩
  obtain ⟨W2, hW2⟩ : ∃ W2, W1.alloc (.cells #[.int .u64 0, .string ⟨#[]⟩, .int .u64 0, .int .i64 0, .int .u64 0, .int .u64 0] 87) = W2 := ⟨_, rfl⟩
  have hs1 : W1.heap.size = T + 1 := by rw [← hW1, size_alloc, hT]
  have hs2 : W2.heap.size = T + 2 := by rw [← hW2, size_alloc, hs1]
  have hb1 : Below w.heap.size w W1 := by rw [← hW1]; exact bel_alloc _ _
  have hb2 : Below w.heap.size w W2 := bel_trans hb1 (by rw [← hW2]; exact bel_alloc _ _)
  have hbT : Blk W2 T 48 #[.int .u64 (s.own : Int), .int .u64 (s.xmin : Int), .int .u64 (s.xmax : Int), .slice s.A n s.c] := by rw [← hW2]; exact Blk.alloc (by rw [← hW1, ← hT]; exact Blk.new w _ _) _
  have hbR : Blk W2 (T + 1) 87 #[.int .u64 0, .string ⟨#[]⟩, .int .u64 0, .int .i64 0, .int .u64 0, .int .u64 0] := by rw [← hW2, ← hs1]; exact Blk.new W1 _ _
  have HB2 := Lib.hid hb2
  have HBT := Lib.hid hbT
  have HBR := Lib.hid hbR
  have HWS := Lib.hid (And.intro hW1 (And.intro hW2 (And.intro hT hs2)))
  have CN := name_any name W2 hn
  rw [h1'] at CN
  have CN := Lib.hid CN
  have CF := find_b (h.below hb2) (lk.below hb2) hl tn
  rw [hf] at CF
  unfold fndV at CF
  have CF := Lib.hid CF
  have CT := fun (W : World) (hW : Below W2.heap.size W2 W) => taken_b ((h.below hb2).below hW) ((lk.below hb2).below hW) hl (by omega) name
  rw [ht0] at CT
  have CT := Lib.hid CT
  obtain ⟨A1, c1, A2, c2, hA⟩ := h
  obtain ⟨m, hm⟩ : ∃ m, xs.length = m := ⟨_, rfl⟩
  have HA := Lib.hid hA
  have HM := Lib.hid hm
  have HTM := Lib.hid (fnd_mem hf)
  have hcp := (own_le hA.ownX).2
  have hle := (own_le hA.ownX).1
  unfold maxLen at hcp
  rw [hm] at hle hl2
  have hm16' : ¬ (16 : Int) ≤ m := by omega
  have HSO := Lib.hid (And.intro hso hlast)
  have q0 : ((0 : Int) != 0) = false := rfl
  have e0 : plE sA = 0 := if_pos rfl
  have E0 := Lib.hid e0
  obtain ⟨i, hi⟩ := List.getElem?_of_mem HTM.out
  have HI := Lib.hid hi
  obtain ⟨⟨tg, tid, tnm, ta, tb⟩, td, tc⟩ := t
  obtain ⟨t0, t1, t2, t3⟩ := cells4 hbT
  clear hA lk hl hn h1' ht0 hm hso hlast hf hb1 hb2 hbT hbR hW1 hW2 hT hs1 hs2 e0 hi
  go_enter Try.func39, Try.ntmps39
  go_upto_region 1 with fail
  rw [HWS.out.1, HWS.out.2.1, HWS.out.2.2.1]
  go_wp2_with fail
  refine CN.out.mono ?_
  rintro e w2 ⟨rfl, rfl⟩
  go_wp2_with fail
  refine CF.out.mono ?_
  rintro e w3 ⟨rfl, hb3⟩
  have hb03 := HB2.out.trans (hb3.mono HB2.out.size)
  have HA3 := HA.out.keep (fun g hg => hb03.block g (HA.out.lt g hg)) hb03.size
  have hcol := (HA3.tb i _ HI.out).2.2
  have y4 : w3.cell? ⟨tg, 4, none⟩ = some (.slice (some ⟨td, 0, none⟩) 1 tc) := (HA3.tb i _ HI.out).1.cell 4
  have CP := place_any hcol sA
  rw [E0.out] at CP
  have CP := Lib.hid CP
  have HB3 := Lib.hid hb3
  clear hb3 hb03 HA3 hcol t0 t1 t2 t3 CF CN
  go_wp2_with fail
  refine CP.out.mono ?_
  rintro e w4 ⟨rfl, hb4⟩
  have HB4 := Lib.hid (HB3.out.trans (hb4.mono HB3.out.size))
  have CT4 := Lib.hid (CT.out w4 HB4.out)
  obtain ⟨t0, t1, t2, t3⟩ := cells4 (HBT.out.below HB4.out HBT.out.lt)
  clear hb4 y4 HB3 CP
  go_wp2_with fail
  refine CT4.out.mono ?_
  rintro e w5 ⟨rfl, hb5⟩
  have HB5 := Lib.hid (HB4.out.trans (hb5.mono HB4.out.size))
  have HBW5 := Lib.hid (HB2.out.trans (HB5.out.mono HB2.out.size))
  have HA5 := Lib.hid (HA.out.keep (fun g hg => HBW5.out.block g (HA.out.lt g hg)) HBW5.out.size)
  have y1 : w5.cell? ⟨B, 1, none⟩ = some (.slice A2 m c2) := by have := HA5.out.blk.cell 1; rw [HM.out] at this; exact this
  have HS5 : Hid (T + 2 ≤ w5.heap.size) := Lib.hid (by rw [← HWS.out.2.2.2]; exact HB5.out.size)
  clear hb5 t0 t1 t2 t3 CT4 CT HB4
  go_upto_region 16 with fail
  have HT5 := Lib.hid (HBT.out.below HB5.out HBT.out.lt)
  have HR5 := Lib.hid (HBR.out.below HB5.out HBR.out.lt)
  have HI5 := Lib.hid (HA5.out.tb i _ HI.out).1
  have HI5 : Hid (Blk w5 tg 141 #[.int .u64 (tid : Int), .string tnm, .int .u64 (ta : Int), .int .u64 (tb : Int), .slice (some ⟨td, 0, none⟩) 1 tc]) := HI5
  have HXW : Hid (w5.cell? ⟨T, 0, none⟩ = some (.int .u64 (s.own : Int)) ∧ w5.cell? ⟨tg, 0, none⟩ = some (.int .u64 (tid : Int))) := Lib.hid (And.intro (HT5.out.cell 0) (HI5.out.cell 0))
  have HA6 := Lib.hid (HA5.out.keep (w' := w5.drew) (fun g hg => rfl) (Nat.le_refl _))
  obtain ⟨L, hL⟩ : ∃ L, last + 1 = L := ⟨_, rfl⟩
  have CE := enter_b HA6.out.blk HSO.out.2 s.own name
  rw [hL] at CE
  have HL := Lib.hid hL
  have CE := Lib.hid CE
  have HNT : Hid (T ≠ B) := Lib.hid (HT5.out.ne_ HA5.out.blk (by decide))
  have HNI : Hid (tg ≠ B) := Lib.hid (HI5.out.ne_ HA5.out.blk (by decide))
  have z0 := HXW.out.1
  have z1 := HXW.out.2
  clear hL y1
  go_region_held3 (fun w' => w'.cell? ⟨T, 0, none⟩ = some (.int .u64 (s.own : Int)) ∧ w'.cell? ⟨tg, 0, none⟩ = some (.int .u64 (tid : Int))) (first | with_reducible exact X7.out | with_reducible exact HXW.out | go_keep)
    (first
      | (go_at_call 61; refine CE.out.mono ?_; rintro e w7 ⟨rfl, hblk7, ht7⟩; have HT7 : Hid (Blk w7 T 48 #[.int .u64 (s.own : Int), .int .u64 (s.xmin : Int), .int .u64 (s.xmax : Int), .slice s.A n s.c]) := Lib.hid ((ht7.block T HT5.out.lt HNT.out).trans HT5.out); have HI7 : Hid (Blk w7 tg 141 #[.int .u64 (tid : Int), .string tnm, .int .u64 (ta : Int), .int .u64 (tb : Int), .slice (some ⟨td, 0, none⟩) 1 tc]) := Lib.hid ((ht7.block tg HI5.out.lt HNI.out).trans HI5.out); have X7 : Hid (w7.cell? ⟨T, 0, none⟩ = some (.int .u64 (s.own : Int)) ∧ w7.cell? ⟨tg, 0, none⟩ = some (.int .u64 (tid : Int))) := Lib.hid (And.intro (HT7.out.cell 0) (HI7.out.cell 0)); have HBL7 := Lib.hid (And.intro hblk7 ht7); clear hblk7 ht7))
  clear z0 z1 X7
  obtain ⟨g, hg⟩ : ∃ g, w7.heap.size = g := ⟨_, rfl⟩
  obtain ⟨w8, hw8⟩ : ∃ w8, w7.alloc (.cells #[.int .u64 (L : Int), .string name, .int .u64 (s.own : Int), .int .u64 0, .int .u64 (tid : Int), .int .i64 0] 149) = w8 := ⟨_, rfl⟩
  rw [hw8, hg]
  have ht7 := HBL7.out.2
  have hblk7 := HBL7.out.1
  have hLb : L ≤ 1000000 := by have := HL.out; have := HSO.out.2; omega
  have hsz57 : w5.heap.size ≤ w7.heap.size := ht7.size
  have hb78 : Below w7.heap.size w7 w8 := by rw [← hw8]; exact bel_alloc _ _
  have HA7 : BA w7 F B ts xs L A1 c1 A2 c2 := HA6.out.anew (TF.turn1 HA6.out.blk ht7 (l := [129]) (by simp)) (by decide) (by decide) (by decide) ht7.size hblk7 (own_keep HA6.out.ownT fun q hq => ht7.block q (HA6.out.ownT.lt q hq).2 (fun e2 => own_blk_ne HA6.out.ownT HA6.out.blk (by decide) (by rw [hq, e2]))) (own_keep HA6.out.ownX fun q hq => ht7.block q (HA6.out.ownX.lt q hq).2 (fun e2 => own_blk_ne HA6.out.ownX HA6.out.blk (by decide) (by rw [hq, e2]))) (fun _ hq => hq) (fun q hq => Nat.lt_of_lt_of_le (HA6.out.lt q hq) ht7.size) HA6.out.f1 HA6.out.f2 hLb
  have HA8 := Lib.hid (HA7.keep (fun q hq => hb78.block q (HA7.lt q hq)) hb78.size)
  have HG8 : Hid (Blk w8 g 149 #[.int .u64 (L : Int), .string name, .int .u64 (s.own : Int), .int .u64 0, .int .u64 (tid : Int), .int .i64 0]) := Lib.hid (by rw [← hw8, ← hg]; exact Blk.new w7 _ _)
  have HT8 : Hid (Turn F w w8) := Lib.hid (Turn.trans (Turn.trans (Turn.of_below (bel_dr HBW5.out)) (ht7.mono fun q _ e2 => by rw [e2]; exact HA6.out.fB)) (Turn.of_below hb78))
  have HR8 : Hid (Blk w8 (T + 1) 87 #[.int .u64 0, .string ⟨#[]⟩, .int .u64 0, .int .i64 0, .int .u64 0, .int .u64 0]) := Lib.hid (by
    have h7 : Blk w7 (T + 1) 87 #[.int .u64 0, .string ⟨#[]⟩, .int .u64 0, .int .i64 0, .int .u64 0, .int .u64 0] := (ht7.block (T + 1) HR5.out.lt (HR5.out.ne_ HA5.out.blk (by decide))).trans HR5.out
    exact h7.below hb78 h7.lt)
  have HGE : Hid (w5.heap.size ≤ g ∧ w.heap.size = T ∧ T + 2 ≤ w5.heap.size ∧ (∀ q, F q → q < T) ∧ g < w8.heap.size) := Lib.hid ⟨by rw [← hg]; exact hsz57, HWS.out.2.2.1, HS5.out, fun q hq => by have := HA.out.lt q hq; have := HWS.out.2.2.1; omega, HG8.out.lt⟩
  have y1 : w8.cell? ⟨B, 1, none⟩ = some (.slice A2 m c2) := by have := HA8.out.blk.cell 1; rw [HM.out] at this; exact this
  have O8 : Hid (w8.ownsRow 0 146 1 (.slice A2 m c2) m (ptrs (gsX xs))) := Lib.hid (by have := HA8.out.ownX; rwa [HM.out] at this)
  clear HA7 hb78 hblk7 ht7 hsz57 hw8 hg HBL7 HT7 HI7 HXW CE HA6 HT5 HR5 HI5 HBW5 HA5 HB5 HS5
  go_upto_region 18 with (at_builtin; go_loud (refine wpl_app_px rfl (.tmp 75) (.tmp 77) rfl 0 _ m (ptrs (gsX xs)) rfl (World.ownsRow.alloc O8.out _) _ _ 1 (ptrs [g]) rfl (lies_at _ #[.pointer (some ⟨g, 0, none⟩)] _ 1 1 w8.heap.size rfl rfl) (ptrs_one _) (by omega) (by omega) ?_; intro v1 w10 hown1 hg1; obtain ⟨A8, c8, hv1, _⟩ := Sl.of_own hown1; subst hv1; have hB10 := TF.kin (World.ownsRow.alloc O8.out _) hg1 (l := [146]) (by simp) B _ _ (Blk.alloc HA8.out.blk _) (by decide); have z0 := hB10.cell 1; have f0 := hB10.frozen 1; have HG10 := Lib.hid (TF.kin (World.ownsRow.alloc O8.out _) hg1 (l := [146]) (by simp) g _ _ (Blk.alloc HG8.out _) (by decide)); have HR10 := Lib.hid (TF.kin (World.ownsRow.alloc O8.out _) hg1 (l := [146]) (by simp) (T + 1) _ _ (Blk.alloc HR8.out _) (by decide)); have HB10 := Lib.hid hB10; clear hB10))
  obtain ⟨w9, hw9⟩ : ∃ w9, w8.alloc (.cells #[.pointer (some ⟨g, 0, none⟩)] 146) = w9 := ⟨_, rfl⟩
  rw [hw9] at hg1
  have hb89 : Below w8.heap.size w8 w9 := by rw [← hw9]; exact bel_alloc _ _
  have hA9 := HA8.out.keep (fun q hq => hb89.block q (HA8.out.lt q hq)) hb89.size
  have hown2 : w10.ownsRow 0 146 1 (.slice A8 (xs.length + 1) c8) (xs.length + 1) (ptrs (gsX xs) ++ ptrs [g]) := by rw [HM.out]; exact hown1
  have hg2 : Kin w9 w10 (.slice A2 xs.length c2) (.slice A8 (xs.length + 1) c8) := by rw [HM.out]; exact hg1
  obtain ⟨w11, hw11⟩ : ∃ w11, w10.setCell ⟨B, 1, none⟩ (.slice A8 (m + 1) c8) = w11 := ⟨_, rfl⟩
  have hsz11 : w11.heap.size = w10.heap.size := by rw [← hw11]; simp [World.setCell]
  have hT9 : Turn F w w9 := Turn.trans HT8.out (Turn.of_below hb89)
  have hT10 : Turn F w w10 := hT9.kin hg2 (fun q hq => .inl (hA9.f2 q hq))
  have hT11 : Turn F w w11 := by rw [← hw11]; exact hT10.set_ (p := ⟨B, 1, none⟩) (.inl HA8.out.fB) _
  have hsz9 : w9.heap.size ≤ w10.heap.size := hg1.size
  have hg9 : g < w9.heap.size := Nat.lt_of_lt_of_le HGE.out.2.2.2.2 hb89.size
  have hBA : BA w11 (fun q => F q ∨ (w5.heap.size ≤ q ∧ q < w10.heap.size)) B ts (xs ++ [⟨⟨g, L, name, s.own, 0⟩, tid, 0⟩]) L A1 c1 A8 c8 := by
    have := hA9.addX (w' := w10) (G := fun q => F q ∨ (w5.heap.size ≤ q ∧ q < w10.heap.size)) (x := ⟨⟨g, L, name, s.own, 0⟩, tid, 0⟩) (Blk.below HG8.out hb89 HG8.out.lt) ⟨by show L ≤ 1000000; exact hLb, HSO.out.1, by show 0 < 18446744073709551616; omega⟩ (fun i u hu => by have := HGE.out.2.2.2.1 _ (HA8.out.fX i u hu); have := HGE.out; show u.e.g ≠ g; omega) hown2 hg2 (fun q hq => by
      have hge := HGE.out
      rcases hq with hq | rfl | ⟨h1, h2⟩
      · exact .inl hq
      · exact .inr ⟨hge.1, by omega⟩
      · exact .inr ⟨by have := hb89.size; omega, h2⟩) (fun q hq => by
      have hge := HGE.out
      rcases hq with hq | hq
      · have := hge.2.2.2.1 q hq; omega
      · exact hq.2)
    rw [HM.out, hw11] at this
    exact this
  have HBA := Lib.hid hBA
  have HT11 := Lib.hid hT11
  have HNB : Hid (g ≠ B ∧ T + 1 ≠ B) := Lib.hid ⟨HG10.out.ne_ HB10.out (by decide), HR10.out.ne_ HB10.out (by decide)⟩
  have hg11 : Blk w11 g 149 (Ix.cells ⟨⟨g, L, name, s.own, 0⟩, tid, 0⟩) := by
    rw [← hw11]
    exact (RowKit.Below.heap_setCell w10 ⟨B, 1, none⟩ _ g HNB.out.1).trans HG10.out
  have HR11 : Hid (Blk w11 (T + 1) 87 #[.int .u64 0, .string ⟨#[]⟩, .int .u64 0, .int .i64 0, .int .u64 0, .int .u64 0]) := Lib.hid (by
    rw [← hw11]
    exact (RowKit.Below.heap_setCell w10 ⟨B, 1, none⟩ _ (T + 1) HNB.out.2).trans HR10.out)
  have HSZ : Hid (w10.heap.size = w11.heap.size ∧ w9.heap.size ≤ w10.heap.size ∧ w8.heap.size ≤ w9.heap.size) := Lib.hid ⟨hsz11.symm, hsz9, hb89.size⟩
  have CI : Hid (Calls Try.prog 68 #[.pointer (some ⟨g, 0, none⟩)] w11 fun e w' => e = .returned (.agg #[.int .u64 (L : Int), .string name, .int .u64 (tid : Int), .int .i64 0, .int .u64 (s.own : Int), .int .u64 0]) ∧ Below w11.heap.size w11 w') := Lib.hid (itell_any hg11)
  rw [hw11]
  clear hown1 hg1 hown2 hg2 hw9 hw11 hb89 hA9 hsz11 hT9 hT10 hT11 hsz9 hg9 hBA hg11 z0 f0 y1 HR10 HG10 HB10 HR8 HG8 HA8 HT8 O8
  go_wp2_with fail
  refine CI.out.mono ?_
  rintro e w12 ⟨rfl, hb12⟩
  have HR12 := Lib.hid (HR11.out.below hb12 HR11.out.lt)
  have HB12 := Lib.hid hb12
  clear hb12
  have p0 := HR12.out.frozen 0
  have p1 := HR12.out.frozen 1
  have p2 := HR12.out.frozen 2
  have p3 := HR12.out.frozen 3
  have p4 := HR12.out.frozen 4
  have p5 := HR12.out.frozen 5
  have q0 := HR12.out.cell 0
  have q1 := HR12.out.cell 1
  have q2 := HR12.out.cell 2
  have q3 := HR12.out.cell 3
  have q4 := HR12.out.cell 4
  have q5 := HR12.out.cell 5
  go_wp2_with fail
  have hs := Blk.set_ (Blk.set_ (Blk.set_ (Blk.set_ (Blk.set_ (Blk.set_ HR12.out 0 (.int .u64 (L : Int))) 1 (.string name)) 2 (.int .u64 (tid : Int))) 3 (.int .i64 0)) 4 (.int .u64 (s.own : Int))) 5 (.int .u64 0)
  clear p0 p1 p2 p3 p4 p5 q0 q1 q2 q3 q4 q5
  refine bodyPost_ret (ci_ret hs rfl rfl) rfl ?_
  have hge := HGE.out
  have hTT : w.heap.size ≤ T + 1 := by omega
  have hT12 := Turn.trans HT11.out (Turn.of_below HB12.out)
  have hT13 := (((((hT12.set_ (p := ⟨T + 1, 0, none⟩) (.inr hTT) (.int .u64 (L : Int))).set_ (p := ⟨T + 1, 1, none⟩) (.inr hTT) (.string name)).set_ (p := ⟨T + 1, 2, none⟩) (.inr hTT) (.int .u64 (tid : Int))).set_ (p := ⟨T + 1, 3, none⟩) (.inr hTT) (.int .i64 0)).set_ (p := ⟨T + 1, 4, none⟩) (.inr hTT) (.int .u64 (s.own : Int))).set_ (p := ⟨T + 1, 5, none⟩) (.inr hTT) (.int .u64 0)
  have hBA12 := HBA.out.keep (fun q hq => HB12.out.block q (HBA.out.lt q hq)) HB12.out.size
  have hBA13 := hBA12.keep (w' := (((((w12.setCell ⟨T + 1, 0, none⟩ (.int .u64 (L : Int))).setCell ⟨T + 1, 1, none⟩ (.string name)).setCell ⟨T + 1, 2, none⟩ (.int .u64 (tid : Int))).setCell ⟨T + 1, 3, none⟩ (.int .i64 0)).setCell ⟨T + 1, 4, none⟩ (.int .u64 (s.own : Int))).setCell ⟨T + 1, 5, none⟩ (.int .u64 0)) (fun q hq => heap_six (by
    rcases hq with hq | hq
    · have := hge.2.2.2.1 q hq; omega
    · omega)) (by rw [size_six]; exact Nat.le_refl _)
  have hsz12 := HB12.out.size
  have hsz := HSZ.out
  unfold CiP
  rw [HL.out]
  refine ⟨g, rfl, BF.more ⟨A1, c1, A8, c8, hBA13⟩ (fun q hq => ?_) (fun q hq => ?_), hT13⟩
  · rcases hq with hq | hq
    · exact .inl hq
    · exact .inr ⟨by omega, by rw [size_six]; omega⟩
  · rcases hq with hq | hq
    · have := hge.2.2.2.1 q hq
      rw [size_six]
      omega
    · exact hq.2
end
end Go.Proofs.Ytnpmjljpaaaljaa.Bok
