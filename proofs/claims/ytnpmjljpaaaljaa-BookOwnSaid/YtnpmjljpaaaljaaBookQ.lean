/- book.Book: DropTable. -/
import Derived.Test.YtnpmjljpaaaljaaBookP
namespace Go.Proofs.Ytnpmjljpaaaljaa.Bok
open Go.ChangeMaps Go.MapKept Go.RowKit Go.Proofs.Ytnpmjljpaaaljaa.Nums Go.Proofs.Ytnpmjljpaaaljaa.Mem Go.Proofs.Ytnpmjljpaaaljaa.Clg
set_option linter.unusedVariables false
set_option linter.unusedSimpArgs false
set_option maxRecDepth 100000
set_option maxHeartbeats 1000000
def vsX (f : Nat) (S : List Nat) (s : Sn) (x : Ix) : Bool := visS f S s x.e.a x.e.b
/-- what DropTable ends with a table -/
def goL (f : Nat) (S : List Nat) (s : Sn) (t : Tb) (xs : List Ix) : List En := t.e :: ((ofX xs t.e.id).filter (vsX f S s)).map Ix.e
theorem own_lit {w : World} {b g : Nat} {e : TypeId} (hb : b ≤ w.heap.size) : (w.alloc (.cells #[.pointer (some ⟨g, 0, none⟩)] e)).ownsRow b e 1 (.slice (some ⟨w.heap.size, 0, none⟩) 1 1) 1 (ptrs [g]) :=
  ⟨rfl, .inr ⟨w.heap.size, 1, #[.pointer (some ⟨g, 0, none⟩)], rfl, hb, Blk.new w _ _, Nat.le_refl _, by unfold maxLen; omega, rfl, rfl⟩⟩
theorem fnd_mem {f : Nat} {S : List Nat} {s : Sn} {name : ByteArray} {ts : List Tb} {t : Tb} (h : fnd f S s name ts = some t) : t ∈ ts := List.mem_of_find?_eq_some h
section
variable {w : World} {F FL : Nat → Prop} {B P f n last : Nat} {S : List Nat} {s : Sn} {ts : List Tb} {xs : List Ix} {name : ByteArray}
theorem dt_none (h : BF w F B ts xs last) (lk : Lk w FL P f S s n) (hl : ts.length ≤ 1000) (hf : fnd f S s name ts = none) :
    Calls Try.prog 38 #[.pointer (some ⟨B, 0, none⟩), .pointer (some ⟨P, 0, none⟩), .agg #[.int .u64 (s.own : Int), .int .u64 (s.xmin : Int), .int .u64 (s.xmax : Int), .slice s.A n s.c], .string name] w fun e w' => e = .returned (.tuple #[.int .u64 0, .int .i64 6]) ∧ Below w.heap.size w w' := by
  obtain ⟨T, hT⟩ : ∃ T, w.heap.size = T := ⟨_, rfl⟩
  obtain ⟨W1, hW1⟩ : ∃ W1, w.alloc (.cells #[.int .u64 (s.own : Int), .int .u64 (s.xmin : Int), .int .u64 (s.xmax : Int), .slice s.A n s.c] 48) = W1 := ⟨_, rfl⟩
  have hb1 : Below w.heap.size w W1 := by rw [← hW1]; exact bel_alloc _ _
  have hbT : Blk W1 T 48 #[.int .u64 (s.own : Int), .int .u64 (s.xmin : Int), .int .u64 (s.xmax : Int), .slice s.A n s.c] := by rw [← hW1, ← hT]; exact Blk.new w _ _
  have HB1 := Lib.hid hb1
  have CF := find_b (h.below hb1) (lk.below hb1) hl name
  rw [hf] at CF
  have CF := Lib.hid CF
  obtain ⟨t0, t1, t2, t3⟩ := cells4 hbT
  have HWS := Lib.hid (And.intro hW1 hT)
  clear h lk hl hf hb1 hbT hW1 hT
  go_enter Try.func38, Try.ntmps38
  go_upto_region 1 with fail
  rw [HWS.out.1, HWS.out.2]
  go_wp2_with fail
  refine CF.out.mono ?_
  rintro e w2 ⟨rfl, hb2⟩
  have HB2 := Lib.hid (HB1.out.trans (hb2.mono HB1.out.size))
  unfold fndV
  clear hb2 t0 t1 t2 t3
  go_wp2_with fail
  go_ret2
  exact ⟨rfl, HB2.out⟩
/-- a table and what goes with it is ended, or nothing is -/
def DtP (w : World) (F : Nat → Prop) (B : Nat) (ts : List Tb) (xs : List Ix) (last f : Nat) (S : List Nat) (s : Sn) (t : Tb) (e : Ending) (w' : World) : Prop :=
  ((∃ x ∈ goL f S s t xs, frB f S s x = false) ∧ e = .returned (.tuple #[.int .u64 0, .int .i64 11]) ∧ Below w.heap.size w w') ∨ ((∀ x ∈ goL f S s t xs, frB f S s x = true) ∧ e = .returned (.tuple #[.int .u64 (t.e.id : Int), .int .i64 0]) ∧ BF w' F B (stTs s.own (gsE (goL f S s t xs)) ts) (stXs s.own (gsE (goL f S s t xs)) xs) last ∧ Turn F w w')
theorem dt_some (h : BF w F B ts xs last) (lk : Lk w FL P f S s n) (hl : ts.length ≤ 1000) (hl2 : xs.length ≤ 900) (hxt : ∀ x ∈ xs, x.t ≤ 1000000) {t : Tb} (hf : fnd f S s name ts = some t) (hso : s.own < 18446744073709551616) :
    Calls Try.prog 38 #[.pointer (some ⟨B, 0, none⟩), .pointer (some ⟨P, 0, none⟩), .agg #[.int .u64 (s.own : Int), .int .u64 (s.xmin : Int), .int .u64 (s.xmax : Int), .slice s.A n s.c], .string name] w (DtP w F B ts xs last f S s t) := by
  obtain ⟨T, hT⟩ : ∃ T, w.heap.size = T := ⟨_, rfl⟩
  obtain ⟨W1, hW1⟩ : ∃ W1, w.alloc (.cells #[.int .u64 (s.own : Int), .int .u64 (s.xmin : Int), .int .u64 (s.xmax : Int), .slice s.A n s.c] 48) = W1 := ⟨_, rfl⟩
  have hb1 : Below w.heap.size w W1 := by rw [← hW1]; exact bel_alloc _ _
  have hbT : Blk W1 T 48 #[.int .u64 (s.own : Int), .int .u64 (s.xmin : Int), .int .u64 (s.xmax : Int), .slice s.A n s.c] := by rw [← hW1, ← hT]; exact Blk.new w _ _
  have HB1 := Lib.hid hb1
  have HBT := Lib.hid hbT
  have CF := find_b (h.below hb1) (lk.below hb1) hl name
  rw [hf] at CF
  have CF := Lib.hid CF
  have HBF := Lib.hid (h.below hb1)
  have HLK := Lib.hid (lk.below hb1)
  have HXT := Lib.hid (And.intro hl2 hxt)
  have HSO := Lib.hid hso
  have HBF0 := Lib.hid h
  have HLK0 := Lib.hid lk
  have HTM := Lib.hid (fnd_mem hf)
  have HFL : Hid (∀ q, F q → q < w.heap.size) := Lib.hid h.lt
  have HIDT : Hid (t.e.id ≤ 1000000) := Lib.hid (by
    obtain ⟨i, hi⟩ := List.getElem?_of_mem (fnd_mem hf)
    obtain ⟨A1, c1, A2, c2, hA⟩ := h
    exact (hA.tb i t hi).2.1.id)
  obtain ⟨t0, t1, t2, t3⟩ := cells4 hbT
  have HWS := Lib.hid (And.intro hW1 hT)
  obtain ⟨⟨g, id, nm, a, b⟩, cd, cc⟩ := t
  clear h lk hl hl2 hxt hf hb1 hbT hW1 hT hso
  go_enter Try.func38, Try.ntmps38
  go_upto_region 1 with fail
  rw [HWS.out.1, HWS.out.2]
  go_wp2_with fail
  refine CF.out.mono ?_
  rintro e w2 ⟨rfl, hb2⟩
  unfold fndV
  obtain ⟨i, hi⟩ := List.getElem?_of_mem HTM.out
  obtain ⟨H, hH⟩ : ∃ H, w2.heap.size = H := ⟨_, rfl⟩
  obtain ⟨w3, hw3⟩ : ∃ w3, w2.alloc (.cells #[.pointer (some ⟨g, 0, none⟩)] 143) = w3 := ⟨_, rfl⟩
  have hb23 : Below w2.heap.size w2 w3 := by rw [← hw3]; exact bel_alloc _ _
  have hb13 : Below W1.heap.size W1 w3 := hb2.trans (hb23.mono hb2.size)
  have HOL : Hid (w3.ownsRow w.heap.size 143 1 (.slice (some ⟨H, 0, none⟩) 1 1) 1 (ptrs [g])) := Lib.hid (by rw [← hw3, ← hH]; exact own_lit (Nat.le_trans HB1.out.size hb2.size))
  have y0 : w3.cell? ⟨g, 0, none⟩ = some (.int .u64 (id : Int)) := by
    obtain ⟨A1, c1, A2, c2, hA⟩ := HBF.out.below hb13
    exact (hA.eaT hi).c0
  have HB13 := Lib.hid hb13
  have CO := of_b (HBF.out.below hb13) (by have := HXT.out.1; omega) id HXT.out.2 HIDT.out
  unfold PtrP at CO
  obtain ⟨N, hN⟩ : ∃ N, (gsX (ofX xs id)).length = N := ⟨_, rfl⟩
  rw [hN] at CO
  have CO := Lib.hid CO
  have HN : Hid ((ofX xs id).length = N ∧ N ≤ 900) := Lib.hid ⟨by rw [← hN, gsX_len], by rw [← hN, gsX_len]; exact Nat.le_trans (List.length_filter_le _ _) HXT.out.1⟩
  have HWH := Lib.hid (And.intro hw3 hH)
  have hNb := HN.out.2
  clear hb2 hb23 hb13 hw3 hH hN hi CF t0 t1 t2 t3
  go_upto_region 7 with fail
  rw [HWH.out.1, HWH.out.2]
  go_wp2_with fail
  refine CO.out.mono ?_
  rintro e w4 ⟨AX, cX, rfl, hox, hb4⟩
  have HOX := Lib.hid hox
  have HB14 := Lib.hid (HB13.out.trans (hb4.mono HB13.out.size))
  have HOL4 := Lib.hid (own_keep HOL.out fun q hq => hb4.block q (HOL.out.lt q hq).2)
  have hle := (own_le hox).1
  have hcp := (own_le hox).2
  unfold maxLen at hcp
  clear hox hb4 y0
  go_wp2_with fail
  have HT4 := Lib.hid (HBT.out.below HB14.out HBT.out.lt)
  have HBW4 := Lib.hid (HB1.out.trans (HB14.out.mono HB1.out.size))
  go_loopw [11, 35] (fun v iv wr => ∃ (k m : Nat) (A : Option Addr) (c : Nat), k ≤ N ∧ m ≤ k + 1 ∧ 0 < m ∧ iv = .int .i64 k ∧ v = .slice A m c ∧ (((ofX xs id).take k).filter (vsX f S s)).length + 1 = m ∧ wr.ownsRow w.heap.size 143 1 (.slice A m c) m (ptrs (g :: gsX (((ofX xs id).take k).filter (vsX f S s)))) ∧ Below w.heap.size w wr ∧ Blk wr T 48 #[.int .u64 (s.own : Int), .int .u64 (s.xmin : Int), .int .u64 (s.xmax : Int), .slice s.A n s.c] ∧ wr.ownsRow w3.heap.size 146 1 (.slice AX N cX) N (ptrs (gsX (ofX xs id)))) (fun _ iv _ => N - (intOf iv).toNat)
  case atStart => exact ⟨0, 1, _, 1, by omega, by omega, by omega, rfl, rfl, rfl, HOL4.out, HBW4.out, HT4.out, HOX.out⟩
  case round =>
    obtain ⟨k, m, A, c, hk, hmk, hm0, rfl, rfl, hm, ho, hbw, hbt, hox⟩ := hrel
    have HO := Lib.hid ho
    have HBW := Lib.hid hbw
    have HBTW := Lib.hid hbt
    have HOXW := Lib.hid hox
    have HM := Lib.hid hm
    have hcm := (own_le ho).1
    clear ho hm hbt hox
    by_cases hlt : k < N
    · have hlt' : (k : Int) < N := by omega
      obtain ⟨x, hx⟩ : ∃ x, (ofX xs id)[k]? = some x := ⟨_, List.getElem?_eq_getElem (by rw [HN.out.1]; exact hlt)⟩
      have hg : (gsX (ofX xs id))[k]? = some x.e.g := by unfold gsX; rw [List.getElem?_map, hx]; rfl
      obtain ⟨d, rfl, y0⟩ := own_at HOXW.out hg hlt
      have hxm : x ∈ xs := (List.mem_filter.1 (List.mem_of_getElem? hx)).1
      obtain ⟨j, hj⟩ := List.getElem?_of_mem hxm
      have HTD := Lib.hid (HBTW.out.below (bel_drew wr) HBTW.out.lt)
      have X0 := Lib.hid (cells4 HBTW.out)
      obtain ⟨t0, t1, t2, t3⟩ := X0.out
      have CV : Hid (Calls Try.prog 65 #[.pointer (some ⟨x.e.g, 0, none⟩), .pointer (some ⟨P, 0, none⟩), .agg #[.int .u64 (s.own : Int), .int .u64 (s.xmin : Int), .int .u64 (s.xmax : Int), .slice s.A n s.c]] wr.drew (BoolP wr.drew (visS f S s x.e.a x.e.b))) := Lib.hid (by
        obtain ⟨A1, c1, A2, c2, hA⟩ := HBF0.out.below hbw
        exact visible_e ((HLK0.out.below hbw).below (bel_drew wr)) ((hA.eaX hj).below (bel_drew wr)))
      have hbs : w.heap.size ≤ wr.heap.size := hbw.size
      have HTK : Hid ((ofX xs id).take (k + 1) = (ofX xs id).take k ++ [x]) := Lib.hid (by rw [List.take_add_one, hx]; rfl)
      obtain ⟨⟨xg, xid, xnm, xa, xb⟩, tt, kk⟩ := x
      obtain ⟨p, hp⟩ : ∃ p, visS f S s xa xb = p := ⟨_, rfl⟩
      have HP : Hid (vsX f S s ⟨⟨xg, xid, xnm, xa, xb⟩, tt, kk⟩ = p) := Lib.hid hp
      replace CV : Hid (Calls Try.prog 65 #[.pointer (some ⟨xg, 0, none⟩), .pointer (some ⟨P, 0, none⟩), .agg #[.int .u64 (s.own : Int), .int .u64 (s.xmin : Int), .int .u64 (s.xmax : Int), .slice s.A n s.c]] wr.drew (BoolP wr.drew p)) := Lib.hid (by rw [← hp]; exact CV.out)
      clear hx hg hxm hj hp hbw
      go_upto_region 10 with fail
      go_region_held3 (fun w' => w'.cell? ⟨T, 0, none⟩ = some (.int .u64 (s.own : Int)) ∧ w'.cell? ⟨T, 1, none⟩ = some (.int .u64 (s.xmin : Int)) ∧ w'.cell? ⟨T, 2, none⟩ = some (.int .u64 (s.xmax : Int)) ∧ w'.cell? ⟨T, 3, none⟩ = some (.slice s.A n s.c)) (first | with_reducible exact X3.out | with_reducible exact X0.out | go_keep)
        (first
          | (go_at_call 65; refine CV.out.mono ?_; rintro e w5 ⟨rfl, hb5⟩; have X3 := Lib.hid (cells4 (HTD.out.below hb5 HTD.out.lt)); have HB5 := Lib.hid (bel_trans (bel_drew wr) hb5); clear hb5))
      have HO5 := Lib.hid (own_keep HO.out fun q hq => HB5.out.block q (HO.out.lt q hq).2)
      have HX5 := Lib.hid (own_keep HOXW.out fun q hq => HB5.out.block q (HOXW.out.lt q hq).2)
      have HT5 := Lib.hid (HBTW.out.below HB5.out HBTW.out.lt)
      have HBW5 := Lib.hid (HBW.out.trans (HB5.out.mono HBW.out.size))
      have hbs5 : w.heap.size ≤ w5.heap.size := Nat.le_trans hbs HB5.out.size
      cases p
      · have HF : Hid (((ofX xs id).take (k + 1)).filter (vsX f S s) = ((ofX xs id).take k).filter (vsX f S s)) := Lib.hid (by rw [HTK.out, List.filter_append]; simp [HP.out])
        go_wp2_with fail
        go_roundw
        case rel => exact ⟨k + 1, m, A, c, by omega, by omega, hm0, by go_num, rfl, by rw [HF.out]; exact HM.out, by rw [HF.out]; exact HO5.out, HBW5.out, HT5.out, HX5.out⟩
        case measure => simp [intOf]; omega
      · have HF : Hid (((ofX xs id).take (k + 1)).filter (vsX f S s) = ((ofX xs id).take k).filter (vsX f S s) ++ [⟨⟨xg, xid, xnm, xa, xb⟩, tt, kk⟩]) := Lib.hid (by rw [HTK.out, List.filter_append]; simp [HP.out])
        go_wp2_with (at_builtin; go_loud (refine wpl_app_pe rfl (.tmp 45) (.tmp 49) rfl w.heap.size _ m _ rfl (World.ownsRow.alloc HO5.out _) _ _ 1 (ptrs [xg]) rfl (lies_at _ #[.pointer (some ⟨xg, 0, none⟩)] _ 1 1 w5.heap.size rfl rfl) (ptrs_one _) (by omega) (by rw [size_alloc]; omega) ?_; intro v1 w8 hown1 hg1; obtain ⟨A8, c8, hv1, _⟩ := Sl.of_own hown1; subst hv1))
        have htf := TF.kin (World.ownsRow.alloc HO5.out (.cells #[.pointer (some ⟨xg, 0, none⟩)] 143)) hg1 (l := [143]) (by simp)
        have hT8 := htf _ _ _ (Blk.alloc HT5.out _) (by decide)
        have hX8 : w8.ownsRow w3.heap.size 146 1 (.slice (some ⟨d, 0, none⟩) N cX) N (ptrs (gsX (ofX xs id))) := own_keep HX5.out fun q hq => by
          rcases HX5.out.2 with ⟨q1, _⟩ | ⟨g', cap, cur, q1, _, q3, _⟩
          · cases q1
          · rw [q1] at hq
            have : g' = q := by simpa [Value.ownBlock] using hq
            subst this
            exact (htf _ _ _ (Blk.alloc q3 _) (by decide)).trans q3.symm
        have hB8 : Below w.heap.size w w8 := HBW5.out.trans (((bel_alloc w5 _).mono HBW5.out.size).trans (hg1.below (by rw [size_alloc]; omega) fun q hq => (HO5.out.lt q hq).1))
        have H8 := Lib.hid (And.intro hT8 (And.intro hX8 hB8))
        have HOW8 := Lib.hid hown1
        clear htf hT8 hX8 hB8 hown1 hg1
        go_roundw
        case rel => exact ⟨k + 1, m + 1, A8, c8, by omega, by omega, by omega, by go_num, by first | rfl | (congr 1), by rw [HF.out, List.length_append]; have := HM.out; simp; omega, by rw [HF.out]; unfold gsX; rw [List.map_append, ← List.cons_append, ptrs_app]; exact HOW8.out, H8.out.2.2, H8.out.1, H8.out.2.1⟩
        case measure => simp [intOf]; omega
    · obtain rfl : k = N := by omega
      have HTK : Hid ((ofX xs id).take k = ofX xs id) := Lib.hid (List.take_of_length_le (by rw [HN.out.1]; exact Nat.le_refl _))
      have hgg : Gng wr F ts xs (goL f S s ⟨⟨g, id, nm, a, b⟩, cd, cc⟩ xs) w.heap.size A m c := by
        have e1 : gsE (goL f S s ⟨⟨g, id, nm, a, b⟩, cd, cc⟩ xs) = g :: gsX ((ofX xs id).filter (vsX f S s)) := by unfold gsE goL gsX; rw [List.map_cons, List.map_map]; rfl
        refine ⟨?_, ?_, fun e he => ?_, fun q hq hFq => ?_⟩
        · rw [e1]; have h := HO.out; rwa [HTK.out] at h
        · have h := HM.out
          rw [HTK.out] at h
          unfold goL
          rw [List.length_cons, List.length_map]
          exact h
        · unfold goL at he
          unfold ens
          rw [List.mem_append]
          rcases List.mem_cons.1 he with rfl | he
          · exact .inl (List.mem_map.2 ⟨_, HTM.out, rfl⟩)
          · obtain ⟨x, hx, rfl⟩ := List.mem_map.1 he
            exact .inr (List.mem_map.2 ⟨x, (List.mem_filter.1 (List.mem_filter.1 hx).1).1, rfl⟩)
        · have := (HO.out.lt q hq).1
          have := HFL.out q hFq
          omega
      have CE := Lib.hid (end_b (HBF0.out.below HBW.out) (HLK0.out.below HBW.out) hgg hm0 (by omega) HSO.out)
      obtain ⟨t0, t1, t2, t3⟩ := cells4 HBTW.out
      clear hgg hlt hk hbw
      go_wp2_with fail
      refine CE.out.mono ?_
      rintro e w9 (⟨hex, rfl, hb9⟩ | ⟨hall, ⟨x0, hx0, rfl⟩, hbf9, ht9⟩)
      · have H9 := Lib.hid (And.intro hex (HBW.out.trans (hb9.mono HBW.out.size)))
        clear hex hb9 t0 t1 t2 t3
        go_wp2_with fail
        go_ret2
        exact .inl ⟨H9.out.1, rfl, H9.out.2⟩
      · have hid0 : x0.id = id := by
          unfold goL at hx0
          simp at hx0
          rw [← hx0]
        have H9 := Lib.hid (And.intro hall (And.intro hbf9 (Turn.trans (Turn.of_below HBW.out) ht9)))
        rw [hid0]
        clear hall hbf9 ht9 hx0 hid0 t0 t1 t2 t3
        go_wp2_with fail
        go_ret2
        exact .inr ⟨H9.out.1, rfl, H9.out.2.1, H9.out.2.2⟩
end
end Go.Proofs.Ytnpmjljpaaaljaa.Bok
