/- lapidaryref10: Take, Least. -/
import Derived.Test.YtnpmjljpaaaljaaSnapE
namespace Go.Proofs.Ytnpmjljpaaaljaa.Clg
open Go.ChangeMaps Go.MapKept Go.RowKit Go.Proofs.Ytnpmjljpaaaljaa.Nums Go.Proofs.Ytnpmjljpaaaljaa.Mem
set_option linter.unusedVariables false
set_option linter.unusedSimpArgs false
set_option maxRecDepth 100000
theorem belD {B : Nat} {w w' : World} (h : Below B w w') (m : Nat) : Below B w (w'.drewN m) := ⟨h.os, h.tape, h.output, h.size, h.block⟩
theorem cell_same {w w' : World} {a : Addr} (h : w'.heap[a.block]? = w.heap[a.block]?) : w'.cell? a = w.cell? a := by
  unfold World.cell?
  rw [h]
theorem SlU.keep {w w' : World} {A : Option Addr} {c : Nat} {R : List Nat} (h : SlU w A c R) (hk : ∀ ad, A = some ad → w'.heap[ad.block]? = w.heap[ad.block]?) (hs : w.heap.size ≤ w'.heap.size) : SlU w' A c R := by
  refine ⟨h.len, h.le, h.cap, h.nil, fun hn => ?_⟩
  obtain ⟨ad, e, h1, h2⟩ := Sl.at_ h hn
  refine ⟨ad, e, Nat.lt_of_lt_of_le h1 hs, fun j u hu => ?_⟩
  rw [← h2 j u hu]
  refine cell_same ?_
  have hb : (ad.add j).block = ad.block := by unfold Addr.add; split <;> rfl
  rw [hb]
  exact hk ad e
def RTakeP (w : World) (f : Nat) (S : List Nat) (own : Nat) (e : Ending) (w' : World) : Prop :=
  ∃ A c, e = .returned (.agg #[.int .u64 (own : Int), .int .u64 ((f + S.length : Nat) : Int), .slice A (runX f S own).length c]) ∧ SlU w' A c (runX f S own) ∧ (∀ ad, 0 < (runX f S own).length → A = some ad → w.heap.size ≤ ad.block) ∧ Below w.heap.size w w'
theorem put3 {w : World} {g : Nat} {t : TypeId} {a0 a1 a2 b0 b1 b2 : Value} (h : Blk w g t #[a0, a1, a2]) : Blk (((w.setCell ⟨g, 0, none⟩ b0).setCell ⟨g, 1, none⟩ b1).setCell ⟨g, 2, none⟩ b2) g t #[b0, b1, b2] ∧ (∀ k, k ≠ g → (((w.setCell ⟨g, 0, none⟩ b0).setCell ⟨g, 1, none⟩ b1).setCell ⟨g, 2, none⟩ b2).heap[k]? = w.heap[k]?) := by
  refine ⟨((h.set_ 0 b0).set_ 1 b1).set_ 2 b2, fun k hk => ?_⟩
  exact (Below.heap_setCell _ _ _ k hk).trans ((Below.heap_setCell _ _ _ k hk).trans (Below.heap_setCell _ _ _ k hk))
theorem cells3 {w : World} {g : Nat} {t : TypeId} {a b c : Value} (h : Blk w g t #[a, b, c]) : (w.cell? ⟨g, 0, none⟩ = some a ∧ w.cell? ⟨g, 1, none⟩ = some b ∧ w.cell? ⟨g, 2, none⟩ = some c) ∧ w.frozen? ⟨g, 0, none⟩ = false ∧ w.frozen? ⟨g, 1, none⟩ = false ∧ w.frozen? ⟨g, 2, none⟩ = false := ⟨⟨h.cell 0, h.cell 1, h.cell 2⟩, h.frozen 0, h.frozen 1, h.frozen 2⟩
theorem filter_snoc (R : List Nat) (y own : Nat) : (R ++ [y]).filter (fun z => z != own) = R.filter (fun z => z != own) ++ if y = own then [] else [y] := by
  rw [List.filter_append]
  congr 1
  by_cases h : y = own
  · subst h; simp
  · rw [if_neg h, List.filter_cons_of_pos (by simpa using h)]; rfl
/-- the list that is made, and both boxes -/
structure RT (w wr : World) (H G own nx : Nat) (L : List Nat) (A : Option Addr) (c : Nat) : Prop where
  b0 : Blk wr H 52 #[.int .u64 0, .int .u64 0, .slice none 0 0]
  b1 : Blk wr G 52 #[.int .u64 (own : Int), .int .u64 (nx : Int), .slice A L.length c]
  own_ : OwnU wr w.heap.size (.slice A L.length c) L.length (u64s L)
  bel : Below w.heap.size w wr
theorem RT.put {w wr w1 : World} {H G own nx y : Nat} {L : List Nat} {A : Option Addr} {c : Nat} (h : RT w wr H G own nx L A c) (hG : w.heap.size ≤ G) (hne : H ≠ G) {v : Value} (ho : OwnU w1 w.heap.size v (L.length + 1) (u64s L ++ [.int .u64 (y : Int)])) (hk : Kin (wr.alloc (.cells #[.int .u64 (y : Int)] 28)) w1 (.slice A L.length c) v) :
    ∃ A1 c1, v = .slice A1 (L.length + 1) c1 ∧ RT w (w1.setCell ⟨G, 2, none⟩ v) H G own nx (L ++ [y]) A1 c1 := by
  obtain ⟨A1, c1, rfl, _⟩ := Sl.of_own ho
  have hnb : ∀ g t cs, Blk wr g t cs → t ≠ 28 → (Value.slice A L.length c).ownBlock ≠ some g := fun g t cs hb ht => own_blk_ne h.own_ hb (Ne.symm ht)
  have k0 : Blk w1 H 52 #[.int .u64 0, .int .u64 0, .slice none 0 0] := (hk.1.block H (h.b0.alloc _).lt (Ne.symm (hnb _ _ _ h.b0 (by decide)))).trans (h.b0.alloc _)
  have k1 : Blk w1 G 52 #[.int .u64 (own : Int), .int .u64 (nx : Int), .slice A L.length c] := (hk.1.block G (h.b1.alloc _).lt (Ne.symm (hnb _ _ _ h.b1 (by decide)))).trans (h.b1.alloc _)
  have hl : (L ++ [y]).length = L.length + 1 := by simp
  have hb1 : Below w.heap.size w w1 := (h.bel.alloc h.bel.size _).trans (hk.below (by rw [size_alloc]; have := h.bel.size; omega) (fun g hg => (h.own_.lt g hg).1))
  refine ⟨A1, c1, rfl, k0.far hne _, ?_, ?_, hb1.setCell hG _⟩
  · rw [hl]; exact k1.set_ 2 _
  · rw [hl]
    exact own_keep (own_eqU ho rfl (by rw [u64s_app]; rfl)) fun g hg => Below.heap_setCell _ _ _ g (fun e => own_blk_ne ho k1 (by decide) (by rw [hg, e]))
theorem RT.step {w wr w1 : World} {H G own nx y c5 : Nat} {L R : List Nat} {A A5 : Option Addr} {c : Nat} (h : RT w wr H G own nx L A c) (hG : w.heap.size ≤ G) (hne : H ≠ G) (hNB : ∀ ad, A5 = some ad → (Value.slice A L.length c).ownBlock ≠ some ad.block) (hS : SlU wr A5 c5 R)
    (hFR : ∀ ad, A5 = some ad → G < ad.block) (hlt : ∀ ad, A5 = some ad → ad.block < wr.heap.size) {v : Value} (ho : OwnU w1 w.heap.size v (L.length + 1) (u64s L ++ [.int .u64 (y : Int)])) (hk : Kin (wr.alloc (.cells #[.int .u64 (y : Int)] 28)) w1 (.slice A L.length c) v) :
    ∃ A1 c1, v = .slice A1 (L.length + 1) c1 ∧ RT w (w1.setCell ⟨G, 2, none⟩ v) H G own nx (L ++ [y]) A1 c1 ∧ (∀ ad, A5 = some ad → (Value.slice A1 (L.length + 1) c1).ownBlock ≠ some ad.block) ∧ SlU (w1.setCell ⟨G, 2, none⟩ v) A5 c5 R := by
  obtain ⟨A1, c1, hv, hrt⟩ := h.put hG hne ho hk
  have hsc : (w1.setCell ⟨G, 2, none⟩ v).heap.size = w1.heap.size := by simp [World.setCell]
  have hsz := hk.size
  rw [size_alloc] at hsz
  refine ⟨A1, c1, hv, hrt, fun ad e e2 => ?_, hS.keep (fun ad e => ?_) (by omega)⟩
  · rw [← hv] at e2
    rcases hk.2 with e1 | ⟨g1, e1, hge⟩
    · exact hNB ad e (e1.symm.trans e2)
    · have e3 := e1.symm.trans e2
      injection e3 with e3
      have := hlt ad e
      rw [size_alloc] at hge
      omega
  · have h1 := hFR ad e
    have h2 := hlt ad e
    refine (Below.heap_setCell w1 _ _ ad.block (show ad.block ≠ G by omega)).trans ((hk.1.block ad.block (by rw [size_alloc]; omega) (Ne.symm (hNB ad e))).trans (Below.heap_alloc wr _ ad.block h2))
theorem rtake_end {w wr : World} {f own nx G r : Nat} {S : List Nat} {A : Option Addr} {c : Nat} (HN : (runX f S own).length = r) (HNX : f + S.length = nx) (h : RT w wr w.heap.size G own nx (runX f S own) A c) :
    RTakeP w f S own (.returned (.agg #[.int .u64 (own : Int), .int .u64 (nx : Int), .slice A r c])) (((wr.setCell ⟨w.heap.size, 0, none⟩ (.int .u64 (own : Int))).setCell ⟨w.heap.size, 1, none⟩ (.int .u64 (nx : Int))).setCell ⟨w.heap.size, 2, none⟩ (.slice A r c)) := by
  subst HN HNX
  have hp := put3 (b0 := .int .u64 (own : Int)) (b1 := .int .u64 ((f + S.length : Nat) : Int)) (b2 := .slice A (runX f S own).length c) h.b0
  have ho := own_keep h.own_ (w' := _) fun g hg => hp.2 g (fun e => own_blk_ne h.own_ h.b0 (by decide) (by rw [hg, e]))
  obtain ⟨A', c', e', hs⟩ := Sl.of_own ho
  injection e' with e1 _ e2
  subst e1 e2
  refine ⟨A, c, rfl, hs, fun ad h0 hA => ?_, (((h.bel.setCell (Nat.le_refl _) _).setCell (Nat.le_refl _) _).setCell (Nat.le_refl _) _)⟩
  subst hA
  exact (h.own_.lt ad.block rfl).1
section
variable {w w' : World} {F : Nat → Prop} {Q f : Nat} {S : List Nat}
set_option maxHeartbeats 2000000 in
theorem rtake_any (h : RF w F Q f S) (own : Nat) : Calls Try.prog 46 #[.pointer (some ⟨Q, 0, none⟩), .int .u64 (own : Int)] w (RTakeP w f S own) := by
  have HL := Lib.hid h
  obtain ⟨nx, hnx⟩ : ∃ nx, f + S.length = nx := ⟨_, rfl⟩
  have HNX := Lib.hid hnx
  have CN := rnext_any (h.alloc (.cells #[.int .u64 0, .int .u64 0, .slice none 0 0] 52))
  rw [hnx] at CN
  have CN := Lib.hid CN
  have HRS : Hid (∀ k, (runs f S).length ≤ k → k ≤ (runs f S).length → True) := Lib.hid fun _ _ _ => trivial
  have hrl := runs_len S f
  have hst := h
  obtain ⟨A0, c0, hq⟩ := hst
  have htop := hq.top
  have hn40 : (runs f S).length ≤ 1099511627777 := by omega
  clear h hnx hq hrl htop
  go_enter Try.func46, Try.ntmps46
  go_wp2_with fail
  refine CN.out.mono ?_
  rintro e w3 ⟨rfl, m3, hw3⟩
  have hz3 : w3.heap.size = w.heap.size + 1 := by rw [hw3]; exact size_alloc _ _
  have HB3 : Hid (Below w.heap.size w w3) := Lib.hid (by rw [hw3]; exact belD (bel_alloc w _) m3)
  have HK3 : Hid (Blk w3 w.heap.size 52 #[.int .u64 0, .int .u64 0, .slice none 0 0]) := Lib.hid (by rw [hw3]; exact Blk.new w _ _)
  have HL3 : Hid (RF w3 F Q f S) := Lib.hid (by rw [hw3]; exact (HL.out.alloc _).drewN m3)
  have HZ3 := Lib.hid hz3
  clear hw3 hz3
  obtain ⟨W4, hW4⟩ : ∃ W4, W4 = w3.alloc (.cells #[.int .u64 (own : Int), .int .u64 (nx : Int), .slice none 0 0] 52) := ⟨_, rfl⟩
  have HW4 := Lib.hid hW4
  have HR4 : Hid (RT w W4 w.heap.size w3.heap.size own nx [] none 0) := Lib.hid (by
    rw [hW4]
    exact ⟨HK3.out.alloc _, Blk.new _ _ _, World.ownsRow_nil _ _ _ _, HB3.out.alloc HB3.out.size _⟩)
  have CA := Lib.hid (rall_any (show RF W4 F Q f S by rw [hW4]; exact HL3.out.alloc _))
  clear hW4
  go_wp2_with fail
  rw [← HW4.out]
  refine CA.out.mono ?_
  intro e w5 h5
  obtain ⟨A5, c5, rfl, ho5, hb5⟩ := h5
  obtain ⟨A5', c5', e', hs5⟩ := Sl.of_own ho5
  injection e' with e1 _ e2
  subst e1 e2
  have HS5 : Hid (SlU w5 A5 c5 (runs f S)) := Lib.hid hs5
  have hcap := hs5.cap
  have hle := hs5.le
  unfold maxLen at hcap
  have HR5 : Hid (RT w w5 w.heap.size w3.heap.size own nx [] none 0) := Lib.hid ⟨HR4.out.b0.below hb5 HR4.out.b0.lt, HR4.out.b1.below hb5 HR4.out.b1.lt, World.ownsRow_nil _ _ _ _, HR4.out.bel.trans (hb5.mono HR4.out.bel.size)⟩
  have HO5 := Lib.hid ho5
  have HGW : Hid (w.heap.size ≤ w3.heap.size ∧ w.heap.size ≠ w3.heap.size) := Lib.hid ⟨by have := HZ3.out; omega, by have := HZ3.out; omega⟩
  have HFR : Hid (∀ ad, A5 = some ad → w3.heap.size < ad.block) := Lib.hid fun ad hg => by
    have h1 := (ho5.lt ad.block (by rw [hg]; rfl)).1
    rw [HW4.out, size_alloc] at h1
    omega
  clear hs5 ho5 hb5
  obtain ⟨R, hR⟩ : ∃ R, runs f S = R := ⟨_, rfl⟩
  have HR : Hid (runX f S own = R.filter (fun z => z != own)) := Lib.hid (by unfold runX; rw [hR])
  rw [hR] at HS5 HO5 hn40 hle
  rw [hR]
  obtain ⟨n, hn⟩ : ∃ n, R.length = n := ⟨_, rfl⟩
  have HN := Lib.hid hn
  rw [hn] at hn40 hle
  rw [hn]
  clear hR hn
  generalize w3.heap.size = G at *
  go_wp2_with fail
  go_loopw [15] (fun i wr => ∃ k : Nat, k ≤ n ∧ i = .int .i64 k ∧ (∃ A c, RT w wr w.heap.size G own nx ((R.take k).filter (fun z => z != own)) A c ∧ ∀ ad, A5 = some ad → (Value.slice A ((R.take k).filter (fun z => z != own)).length c).ownBlock ≠ some ad.block) ∧ SlU wr A5 c5 R) (fun i _ => n - (intOf i).toNat)
  case atStart => exact ⟨0, by omega, rfl, ⟨none, 0, HR5.out, fun ad h => by simp [Value.ownBlock]⟩, HS5.out⟩
  case round =>
    obtain ⟨k, hk, rfl, ⟨A, c, hrt, hnb⟩, hsr⟩ := hrel
    have HNB := Lib.hid hnb
    have HRT := Lib.hid hrt
    have HSR := Lib.hid hsr
    obtain ⟨⟨y0, y1, y2⟩, g0, g1, g2⟩ := cells3 hrt.b1
    clear hrt hsr hnb
    by_cases hlt : k < n
    · have hlt' : (k : Int) < n := by omega
      obtain ⟨y, hy⟩ : ∃ y, R[k]? = some y := ⟨_, List.getElem?_eq_getElem (by have := HN.out; omega)⟩
      obtain ⟨ad, rfl, x0⟩ := HSR.out.at_ hy
      have hfs := filter_snoc (R.take k) y own
      rw [← take_succ hy] at hfs
      have hll : ((R.take k).filter (fun z => z != own)).length ≤ k := Nat.le_trans (List.length_filter_le _ _) (by rw [List.length_take]; omega)
      by_cases hyo : y = own
      · subst hyo
        rw [if_pos rfl, List.append_nil] at hfs
        have HFS := Lib.hid hfs
        have hne : ((y : Int) != (y : Int)) = false := by simp
        clear hy hfs hll
        go_wp2_with fail
        go_roundw
        case rel => exact ⟨k + 1, by omega, by go_num, ⟨A, c, by rw [HFS.out]; exact HRT.out, by rw [HFS.out]; exact HNB.out⟩, HSR.out⟩
        case measure => simp [intOf]; omega
      · rw [if_neg hyo] at hfs
        have hne : ((y : Int) != (own : Int)) = true := by simp; omega
        generalize (R.take k).filter (fun z => z != own) = L at *
        have HFS := Lib.hid hfs
        obtain ⟨r, hr⟩ : ∃ r, L.length = r := ⟨_, rfl⟩
        have HLR := Lib.hid hr
        have hO := HRT.out.own_
        rw [hr] at y2 hll hO
        have HO := Lib.hid hO
        have hnb0 := HNB.out
        rw [hr] at hnb0
        have HNB1 := Lib.hid hnb0
        have HADL : Hid (∀ ad', some ad = some ad' → ad'.block < wr.heap.size) := Lib.hid fun ad' e => by injection e with e; subst e; have := World.block_lt_of_cell? wr _ x0; rw [blk_off] at this; exact this
        clear hy hfs hyo hr hO hnb0
        go_wp2_with (at_builtin; go_loud (refine wpl_app_u rfl (.tmp 23) (.tmp 25) rfl w.heap.size _ r (u64s L) rfl (HO.out.alloc _) _ _ 1 _ rfl (lies_lit _ _ _ 1 1 rfl) (one1 _ _) (by omega) (by rw [size_alloc]; have := HRT.out.bel.size; omega) ?_; intro v1 w1 hown1 hg1; have hown1' : OwnU w1 w.heap.size v1 (L.length + 1) (u64s L ++ [.int .u64 (y : Int)]) := (by rw [HLR.out]; exact hown1); obtain ⟨A1, c1, hv1, hrt1, hnb1, hsr1⟩ := HRT.out.step HGW.out.1 HGW.out.2 (by rw [HLR.out]; exact HNB1.out) HSR.out HFR.out HADL.out hown1' (by rw [HLR.out]; exact hg1); rw [HLR.out] at hv1 hnb1; subst hv1; have HRT1 := Lib.hid hrt1; have HNB2 := Lib.hid hnb1; have HSR2 := Lib.hid hsr1; have hk1 := (hg1.1.block G (HRT.out.b1.alloc _).lt (Ne.symm (own_blk_ne HO.out HRT.out.b1 (by decide)))).trans (HRT.out.b1.alloc _); have hf1 := Blk.frozen (w := w1) hk1 2; have hc1 := Blk.cell (w := w1) hk1 2; clear hrt1 hnb1 hsr1 hk1 hown1'))
        go_roundw
        case rel => exact ⟨k + 1, by omega, by go_num, ⟨A1, c1, by rw [HFS.out]; exact HRT1.out, by rw [HFS.out, List.length_append, HLR.out]; exact HNB2.out⟩, HSR2.out⟩
        case measure => simp [intOf]; omega
    · obtain rfl : k = n := by omega
      obtain ⟨⟨z0, z1, z2⟩, e0, e1, e2⟩ := cells3 HRT.out.b0
      have ht : R.take k = R := List.take_of_length_le (by have := HN.out; omega)
      rw [ht] at HRT y2
      clear ht
      have HP := Lib.hid HRT.out.bel
      rw [← HR.out] at HRT y2
      obtain ⟨r, hr⟩ : ∃ r, (runX f S own).length = r := ⟨_, rfl⟩
      have HRR := Lib.hid hr
      rw [hr] at y2
      clear hr
      have he := rtake_end (w := w) HRR.out HNX.out HRT.out
      have hp := put3 (b0 := .int .u64 (own : Int)) (b1 := .int .u64 (nx : Int)) (b2 := .slice A r c) HRT.out.b0
      have s0 := hp.1.cell 0
      have s1 := hp.1.cell 1
      have s2 := hp.1.cell 2
      go_wp2_with fail
      exact bodyPost_ret (v := .agg #[.int .u64 (own : Int), .int .u64 (nx : Int), .slice A r c]) (by simp [results, Try.results46, go_sem, s0, s1, s2]) rfl he
end
end Go.Proofs.Ytnpmjljpaaaljaa.Clg
