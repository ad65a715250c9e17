/- RowLong: its walk. -/
import Derived.Test.YtfabcnbblhadnaaDoorRowB
import Derived.Test.YtfabcnbblhadnaaDoorAwakeR
import Derived.Test.YtfabcnbblhadnaaDoorKeyD
import Derived.Test.YtfabcnbblhadnaaDoorRef3
namespace Go.Proofs.YtfabcnbblhadnaaDoor.Mem
open Go.RowKit Go.Proofs.YtfabcnbblhadnaaDoor.Nums
open Go.Proofs.YtfabcnbblhadnaaDoor.Cell (U8)
set_option linter.unusedVariables false
set_option linter.unusedSimpArgs false
set_option maxRecDepth 100000
set_option maxHeartbeats 4000000
theorem in0l : Nums.In64 0 := by constructor <;> decide
def tx (s : UInt8) : V := ⟨2, 0, str (List.replicate (s.toNat % 61) 120), false⟩
theorem good_rep : ∀ m, Cell.good (List.replicate m (120 : UInt8)) = true
  | 0 => rfl
  | m + 1 => by
    have h := good_rep m
    unfold Cell.good Cell.noz at h ⊢
    rw [List.replicate_succ, Go.Lib.validD_cons 120 _ (by decide), List.all_cons]
    simpa using h
theorem tx_size (m : Nat) : (str (List.replicate m (120 : UInt8))).size = m := by
  show (List.replicate m (120 : UInt8)).toArray.size = m
  rw [List.size_toArray, List.length_replicate]
theorem tx_right (s : UInt8) : (tx s).right = true := by
  have h61 : s.toNat % 61 ≤ 60 := by omega
  show Cell.rightB 2 0 (str (List.replicate (s.toNat % 61) 120)) false = true
  unfold Cell.rightB
  rw [if_neg (by decide), if_neg (by decide), if_pos rfl, tx_size]
  have h : (str (List.replicate (s.toNat % 61) (120 : UInt8))).data.toList = List.replicate (s.toNat % 61) 120 := rfl
  rw [h, good_rep, decide_eq_true h61]
  rfl
theorem tx_ok (s : UInt8) : (tx s).ok := by
  have h61 : s.toNat % 61 ≤ 60 := by omega
  refine ⟨in0l, ?_⟩
  show (str (List.replicate (s.toNat % 61) (120 : UInt8))).size ≤ maxLen
  rw [tx_size]
  unfold maxLen
  omega
theorem tx_all (x : List UInt8) : (x.map tx).all V.right = true := by
  rw [List.all_eq_true]
  intro v hv
  obtain ⟨s, _, rfl⟩ := List.mem_map.1 hv
  exact tx_right s
theorem tx_oks (x : List UInt8) : ∀ v ∈ x.map tx, v.ok := by
  intro v hv
  obtain ⟨s, _, rfl⟩ := List.mem_map.1 hv
  exact tx_ok s
theorem ks_rep {j : Nat} (h1 : 1 ≤ j) (h8 : j ≤ 8) : ksOk (List.replicate j 2) = true := by
  unfold ksOk
  rw [List.length_replicate, decide_eq_true h1, decide_eq_true h8]
  simp [kOk]
theorem offs_rep : ∀ (x : List UInt8), offs (x.map tx) (List.replicate x.length 2) = false
  | [] => rfl
  | s :: x => by
    have h := offs_rep x
    unfold offs at h ⊢
    rw [List.length_cons, List.replicate_succ, List.map_cons, List.zip_cons_cons, List.any_cons, h]
    rfl
theorem fits_long (x : List UInt8) (h1 : 1 ≤ x.length) (h8 : x.length ≤ 8) : fitsE (List.replicate x.length 2) (x.map tx) = if 200 < rSize (x.map tx) then 2 else 0 := by
  unfold fitsE
  rw [ks_rep h1 h8, List.length_map, List.length_replicate, decide_eq_true rfl, tx_all, offs_rep]
  rfl
theorem rSize_tx_snoc (x : List UInt8) (s : UInt8) : rSize (x.map tx ++ [tx s]) = rSize (x.map tx) + (1 + s.toNat % 61) := by
  unfold rSize
  rw [List.map_append, List.sum_append]
  have h : ([tx s].map fun v => rLen v.k v.s).sum = 1 + s.toNat % 61 := by
    show 1 + (str (List.replicate (s.toNat % 61) (120 : UInt8))).size + 0 = _
    rw [tx_size]
    omega
  rw [h]
  omega
theorem rSize_tx : ∀ (x : List UInt8), rSize (x.map tx) ≤ 1 + 61 * x.length
  | [] => by show 1 ≤ _; omega
  | s :: x => by
    have h := rSize_tx x
    have h61 : s.toNat % 61 ≤ 60 := by omega
    unfold rSize at h ⊢
    rw [List.map_cons, List.map_cons, List.sum_cons, List.length_cons]
    have h2 : rLen (tx s).k (tx s).s = 1 + s.toNat % 61 := by
      show 1 + (str (List.replicate (s.toNat % 61) (120 : UInt8))).size = _
      rw [tx_size]
    rw [h2]
    omega
theorem own_eqK {w : World} {B : Nat} {v : Value} {n n' : Nat} {xs xs' : List Value} (h : OwnK w B v n xs) (hn : n = n') (hx : xs = xs') : OwnK w B v n' xs' := by subst hn hx; exact h
theorem own_apart_e {w : World} {B B' s1 s2 n m : Nat} {e1 e2 : TypeId} {u v : Value} {xs ys : List Value} (h1 : w.ownsRow B e1 s1 u n xs) (h2 : w.ownsRow B' e2 s2 v m ys) (he : e1 ≠ e2) : u.ownBlock = none ∨ u.ownBlock ≠ v.ownBlock := by
  rcases h1.2 with ⟨rfl, _⟩ | ⟨g1, c1, cur1, rfl, _, hg1, _⟩
  · exact .inl rfl
  · right
    rcases h2.2 with ⟨rfl, _⟩ | ⟨g2, c2, cur2, rfl, _, hg2, _⟩
    · intro h; cases h
    · intro h
      have h' : g1 = g2 := by injection h
      subst h'
      rw [hg1] at hg2
      injection hg2 with hg2
      injection hg2 with _ h3 _
      exact he h3
theorem ownV_kin {w w' : World} {B B' n m : Nat} {u v v' : Value} {xs ys : List Value} (h1 : OwnV w B u n xs) (h2 : OwnK w B' v m ys) (hk : Kin w w' v v') : OwnV w' B u n xs :=
  World.ownsRow.kept h1 hk.1 (own_apart_e h1 h2 (by decide))
theorem ownK_kin {w w' : World} {B B' n m : Nat} {u v v' : Value} {xs ys : List Value} (h1 : OwnK w B u n xs) (h2 : OwnV w B' v m ys) (hk : Kin w w' v v') : OwnK w' B u n xs :=
  World.ownsRow.kept h1 hk.1 (own_apart_e h1 h2 (by decide))
theorem own_ne {w : World} {B sz n g : Nat} {e : TypeId} {v : Value} {xs : List Value} (h : w.ownsRow B e sz v n xs) (hg : w.heap.size ≤ g) : v.ownBlock ≠ some g := fun hv => by have := (h.lt g hv).2; omega
theorem lies_kin {w w' : World} {v v' : Value} {B sz g n c : Nat} {xs : List Value} (h : Lies w B sz (.slice (some ⟨g, 0, none⟩) n c) n xs) (hk : Kin w w' v v') (hne : v.ownBlock ≠ some g) : Lies w' B sz (.slice (some ⟨g, 0, none⟩) n c) n xs := by
  refine ⟨h.1, ?_⟩
  rcases h.2 with ⟨h1, _⟩ | ⟨ad, c', h1, h2, h3⟩
  · cases h1
  · have h1' := h1
    injection h1' with e1 e2 e3
    injection e1 with e1
    refine .inr ⟨ad, c', h1, h2, fun hn => ⟨(h3 hn).1, fun j u hu => hk.cell ((h3 hn).2 j u hu) ?_⟩⟩
    rw [add_block, ← e1]
    exact hne
theorem lies_drew {w : World} {B sz n : Nat} {v : Value} {xs : List Value} (h : Lies w B sz v n xs) : Lies w.drew B sz v n xs := h
theorem lies_alloc {w : World} {B sz n : Nat} {v : Value} {xs : List Value} (h : Lies w B sz v n xs) (hB : B ≤ w.heap.size) (o : Obj) : Lies (w.alloc o) B sz v n xs := h.below ((Cell.bel_alloc w o).mono hB)
theorem sz_aad (w : World) (o p : Obj) : ((w.alloc o).alloc p).drew.heap.size = w.heap.size + 2 := by
  show ((w.alloc o).alloc p).heap.size = _
  rw [size_alloc, size_alloc]
theorem conv_own {w : World} {B n c : Nat} {A : Option Addr} {x : List UInt8} (h : OwnB w B (.slice A n c) n (u8s x)) : (convert 24 9 (.slice A n c)).run Tryd.prog w = .ok (.string (str x)) w := by
  obtain ⟨A', c', hv, hs⟩ := Sl.of_own h
  injection hv with h1 _ h3
  subst h1 h3
  exact conv_sl hs
theorem conv_str {w : World} {B n c : Nat} {A : Option Addr} {x : List UInt8} {S : ByteArray} (hS : str x = S) (h : OwnB w B (.slice A n c) n (u8s x)) : (convert 24 9 (.slice A n c)).run Tryd.prog w = .ok (.string S) w := by rw [← hS]; exact conv_own h
theorem ownB_kin {w w' : World} {B B' n m : Nat} {u v v' : Value} {xs ys : List Value} {e : TypeId} {sz : Nat} (h1 : OwnB w B u n xs) (h2 : w.ownsRow B' e sz v m ys) (he : 5 ≠ e) (hk : Kin w w' v v') : OwnB w' B u n xs :=
  World.ownsRow.kept h1 hk.1 (own_apart_e h1 h2 he)
theorem OwnB.drew {w : World} {B n : Nat} {v : Value} {xs : List Value} (h : OwnB w B v n xs) : OwnB w.drew B v n xs := h
theorem make_u8 (m : Nat) (hm : m ≤ 60) (w : World) : (Instr.makeSlice 24 (.int .i64 (m : Int)) (.int .i64 (m : Int))).run Tryd.prog w = .ok (.slice (some ⟨w.heap.size, 0, none⟩) m m) (w.alloc (.cells (u8s (List.replicate m 0)).toArray 5)) := by
  obtain ⟨i, hi, hz0, hz1, hz2⟩ := info_parts info5
  have hr := run_make (P := Tryd.prog) w 24 5 i _ Tryd.underlying24 hi hz0 .i64 .i64 m m (by omega) (by omega) (by rw [hz2]; omega) (by omega)
  rw [hz1, Int.toNat_natCast] at hr
  have e : madeCells #[Value.int .u8 0] (m * 1) = (u8s (List.replicate m 0)).toArray := by
    apply Array.toList_inj.1
    rw [Nat.mul_one, toList_madeCells_one, List.toList_toArray]
    unfold u8s
    rw [List.map_replicate]
    rfl
  rw [← e]
  exact hr
def BlkB (w : World) (G : Nat) (L : List UInt8) : Prop := w.heap[G]? = some (.cells (u8s L).toArray 5 (0, 0))
section
variable {w w' : World} {G : Nat} {L : List UInt8}
theorem BlkB.cell {k : Nat} {b : UInt8} (h : BlkB w G L) (hv : L[k]? = some b) : w.cell? ⟨G, k, none⟩ = some (.int .u8 b.toNat) := by
  rw [cell_of_row w G k _ _ (0, 0) h]
  simp [u8s, hv]
theorem BlkB.frozen (h : BlkB w G L) (k : Nat) : w.frozen? ⟨G, k, none⟩ = false := frozen_of_row w G _ _ _ h
theorem BlkB.put (h : BlkB w G L) (k : Nat) (b : UInt8) : BlkB (w.setCell ⟨G, k, none⟩ (.int .u8 b.toNat)) G (L.set k b) := by
  unfold BlkB
  have e : u8s (L.set k b) = (u8s L).set k (.int .u8 b.toNat) := by unfold u8s; rw [List.map_set]
  rw [e, ← List.setIfInBounds_toArray]
  exact heap_setCell_same _ _ _ _ _ _ h
theorem BlkB.own {n base : Nat} (h : BlkB w G L) (hl : L.length = n) (hB : base ≤ G) (hn : n ≤ 1000) : OwnB w base (.slice (some ⟨G, 0, none⟩) n n) n (u8s L) :=
  ⟨by rw [u8s_len, hl, Nat.mul_one], .inr ⟨G, n, _, rfl, hB, h, Nat.le_refl _, by unfold maxLen; omega, by rw [List.size_toArray, u8s_len, hl, Nat.mul_one], by rw [List.toList_toArray, List.take_of_length_le (by rw [u8s_len, hl, Nat.mul_one]; exact Nat.le_refl _)]⟩⟩
end
theorem below_kin {w0 w w' : World} {v v' : Value} {B : Nat} {e : TypeId} {sz n : Nat} {xs : List Value} (hb : Below B w0 w) (hk : Kin w w' v v') (hB : B ≤ w0.heap.size) (ho : w.ownsRow B e sz v n xs) : Below B w0 w' := hb.trans (own_below hk (Nat.le_trans hB hb.size) ho)
theorem bel_a {B : Nat} (w : World) (o : Obj) (hB : B ≤ w.heap.size) : Below B w (w.alloc o) := (Cell.bel_alloc w o).mono hB
theorem bel_ad {B : Nat} (w : World) (o : Obj) (hB : B ≤ w.heap.size) : Below B w (w.alloc o).drew := (bel_a w o hB).drew
theorem bel_aad {B : Nat} (w : World) (o p : Obj) (hB : B ≤ w.heap.size) : Below B w ((w.alloc o).alloc p).drew := ((bel_a w o hB).trans (bel_a _ p (by rw [size_alloc]; omega))).drew
theorem rep_set : ∀ (p r : Nat), (List.replicate p (120 : UInt8) ++ List.replicate (r + 1) 0).set p 120 = List.replicate (p + 1) 120 ++ List.replicate r 0
  | 0, r => rfl
  | p + 1, r => by
    have h := rep_set p r
    rw [List.replicate_succ, List.cons_append, List.set_cons_succ, h]
    rfl
theorem BlkB.put120 {w : World} {G : Nat} {L : List UInt8} (h : BlkB w G L) (k : Nat) : BlkB (w.setCell ⟨G, k, none⟩ (.int .u8 120)) G (L.set k 120) := h.put k 120
theorem rowlong_walk (w : World) (x : List UInt8) (A : Option Addr) (n c : Nat) (hl : x.length = n) (hs : Sl w w.heap.size 1 A n c (u8s x)) (hU : U8 w) :
    Calls Tryd.prog 13 #[.slice A n c] w fun e w' => e = .returned (.bool true) ∧ Below w.heap.size w w' := by
  have HU := Lib.hid hU
  have HXS := Lib.hid hs
  have HX := Lib.hid hl
  have hcap := hs.cap
  have hle := hs.le
  unfold maxLen at hcap
  clear hs hU hl
  go_enter Tryd.func13, Tryd.ntmps13
  go_wp2_with fail
  refine (awake_r _ HU.out).mono ?_
  rintro e w1 ⟨rfl, hb1⟩
  have HB1 := Lib.hid hb1
  clear hb1
  go_wp2_with fail
  go_loopw [3, 4, 5, 15] (fun k l N i wr => ∃ j : Nat, j ≤ n ∧ j ≤ 8 ∧ i = .int .i64 j ∧ N = .int .i64 (rSize ((x.take j).map tx) : Nat) ∧ OwnK wr w.heap.size k j (u8s (List.replicate j 2)) ∧ OwnV wr w.heap.size l j (vals ((x.take j).map tx)) ∧ Below w.heap.size w wr) (fun _ _ _ i _ => n - (intOf i).toNat)
  case atStart => exact ⟨0, by omega, by omega, rfl, rfl, World.ownsRow_nil _ _ _ _, World.ownsRow_nil _ _ _ _, HB1.out⟩
  case round =>
    obtain ⟨j, hjn, hj8, rfl, rfl, hK, hV, hbr⟩ := hrel
    have HK := Lib.hid hK
    have HV := Lib.hid hV
    have HB := Lib.hid hbr
    have hszr := hbr.size
    clear hK hV hbr
    by_cases hlt : j < n
    rotate_left
    · obtain rfl : j = n := by omega
      obtain ⟨Ak, ck, hvk, hsk⟩ := Sl.of_own HK.out
      obtain ⟨Av, cv, hvv, hsv⟩ := Sl.of_own HV.out
      subst hvk
      subst hvv
      have HKS := Lib.hid hsk
      have HVS := Lib.hid hsv
      clear hsk hsv
      by_cases hj0 : j = 0
      · subst hj0
        have hf : fitsE [] [] = 1 := rfl
        have HFT := Lib.hid (fits_any [] [] Ak 0 ck Av 0 cv wr rfl rfl HKS.out HVS.out (by simp) (HU.out.below HB.out))
        rw [hf] at HFT
        clear hf
        go_wp2_with fail
        refine HFT.out.mono ?_
        rintro e w2 ⟨rfl, hb2⟩
        go_wp2_with fail
        go_ret
        exact ⟨rfl, Cell.bel_trans HB.out hb2⟩
      · have hj1 : (((j : Nat) : Int) == 0) = false := by rw [beq_eq_false_iff_ne]; omega
        have hxl : (x.take j).length = j := by rw [List.length_take, HX.out]; omega
        have hfl := fits_long (x.take j) (by omega) (by omega)
        have HFT := Lib.hid (fits_any (List.replicate j 2) ((x.take j).map tx) Ak j ck Av j cv wr (by rw [List.length_replicate]) (by rw [List.length_map]; exact hxl) HKS.out HVS.out (tx_oks _) (HU.out.below HB.out))
        rw [hxl] at hfl
        rw [hfl] at HFT
        clear hfl hxl
        have hRb : rSize ((x.take j).map tx) ≤ 1 + 61 * (x.take j).length := rSize_tx _
        obtain ⟨R, hR⟩ : ∃ R, rSize ((x.take j).map tx) = R := ⟨_, rfl⟩
        rw [hR] at HFT
        simp only [hR]
        clear hR hRb
        by_cases h200 : 200 < R
        · have h2i : ¬ (R : Int) ≤ 200 := by omega
          have h2d : decide ((R : Int) ≤ 200) = false := decide_eq_false h2i
          rw [if_pos h200] at HFT
          go_wp2_with fail
          refine HFT.out.mono ?_
          rintro e w2 ⟨rfl, hb2⟩
          go_wp2_with fail
          go_ret
          refine ⟨?_, Cell.bel_trans HB.out hb2⟩
          first | rfl | (simp only [h2d]; rfl) | (simp [h2d])
        · have h2i : (R : Int) ≤ 200 := by omega
          rw [if_neg h200] at HFT
          go_wp2_with fail
          refine HFT.out.mono ?_
          rintro e w2 ⟨rfl, hb2⟩
          go_wp2_with fail
          go_ret
          exact ⟨rfl, Cell.bel_trans HB.out hb2⟩
    have hlt' : (j : Int) < n := by omega
    obtain ⟨s, hs⟩ : ∃ s, x[j]? = some s := ⟨_, List.getElem?_eq_getElem (by rw [HX.out]; exact hlt)⟩
    obtain ⟨adk, hAK, hAtk⟩ := HXS.out.at_ (by omega)
    subst hAK
    have xk := u8s_at (hAtk.below HB.out) hs
    by_cases h8 : j < 8
    rotate_left
    · obtain rfl : j = 8 := by omega
      have xk : wr.cell? ⟨adk.block, adk.off + 8, none⟩ = some (.int .u8 (s.toNat : Int)) := xk
      have hlt' : (8 : Int) < n := hlt'
      clear hAtk hs
      obtain ⟨Ak, ck, hvk, hsk⟩ := Sl.of_own HK.out
      obtain ⟨Av, cv, hvv, hsv⟩ := Sl.of_own HV.out
      subst hvk
      subst hvv
      have HKS := Lib.hid hsk
      have HVS := Lib.hid hsv
      clear hsk hsv
      have hj0 : ¬ (8 : Nat) = 0 := by decide
      have hj1 : True := trivial
      have hxl : (x.take 8).length = 8 := by rw [List.length_take, HX.out]; omega
      have hfl := fits_long (x.take 8) (by omega) (by omega)
      have HFT := Lib.hid (fits_any (List.replicate 8 2) ((x.take 8).map tx) Ak 8 ck Av 8 cv wr (by rw [List.length_replicate]) (by rw [List.length_map]; exact hxl) HKS.out HVS.out (tx_oks _) (HU.out.below HB.out))
      rw [hxl] at hfl
      rw [hfl] at HFT
      clear hfl hxl
      have hRb : rSize ((x.take 8).map tx) ≤ 1 + 61 * (x.take 8).length := rSize_tx _
      obtain ⟨R, hR⟩ : ∃ R, rSize ((x.take 8).map tx) = R := ⟨_, rfl⟩
      rw [hR] at HFT
      simp only [hR]
      clear hR hRb
      by_cases h200 : 200 < R
      · have h2i : ¬ (R : Int) ≤ 200 := by omega
        have h2d : decide ((R : Int) ≤ 200) = false := decide_eq_false h2i
        rw [if_pos h200] at HFT
        go_wp2_with fail
        refine HFT.out.mono ?_
        rintro e w2 ⟨rfl, hb2⟩
        go_wp2_with fail
        go_ret
        refine ⟨?_, Cell.bel_trans HB.out hb2⟩
        first | rfl | (simp only [h2d]; rfl) | (simp [h2d])
      · have h2i : (R : Int) ≤ 200 := by omega
        rw [if_neg h200] at HFT
        go_wp2_with fail
        refine HFT.out.mono ?_
        rintro e w2 ⟨rfl, hb2⟩
        go_wp2_with fail
        go_ret
        exact ⟨rfl, Cell.bel_trans HB.out hb2⟩

    have h8' : ¬ (8 : Int) ≤ j := by omega
    have HTK : Hid (x.take (j + 1) = x.take j ++ [s]) := Lib.hid (take_succ_of hs)
    have hRb : rSize ((x.take j).map tx) ≤ 1 + 61 * (x.take j).length := rSize_tx _
    rw [List.length_take, HX.out] at hRb
    have HRS := Lib.hid (rSize_tx_snoc (x.take j) s)
    obtain ⟨m, hm⟩ : ∃ m, s.toNat % 61 = m := ⟨_, rfl⟩
    have hm60 : m ≤ 60 := by omega
    have hmd : ((s.toNat : Int)).tmod 61 = (m : Int) := by rw [← hm]; rfl
    have hmk := make_u8 m hm60
    rw [hm] at HRS
    have HTX : Hid (tx s = ⟨2, 0, str (List.replicate m 120), false⟩) := Lib.hid (by unfold tx; rw [hm])
    obtain ⟨R, hR⟩ : ∃ R, rSize ((x.take j).map tx) = R := ⟨_, rfl⟩
    have hRb' : R ≤ 489 := by omega
    rw [hR] at HRS
    simp only [hR]
    clear hAtk hs hR hRb
    have hs8 := s.toNat_lt
    obtain ⟨z, hz⟩ : ∃ z, s.toNat = z := ⟨_, rfl⟩
    rw [hz] at hmd xk hs8 hm
    have hmd2 : (z : Int) % 61 = (m : Int) := by omega
    clear hz hm
    obtain ⟨G, hG⟩ : ∃ G, wr.heap.size = G := ⟨_, rfl⟩
    have HG := Lib.hid hG
    have HBK0 : Hid (BlkB (wr.alloc (.cells (u8s (List.replicate m 0)).toArray 5)) G (List.replicate 0 120 ++ List.replicate m 0)) := Lib.hid (by rw [← hG]; exact heap_alloc_new wr _)
    have HB0 : Hid (Below G wr (wr.alloc (.cells (u8s (List.replicate m 0)).toArray 5))) := Lib.hid (by rw [← hG]; exact Cell.bel_alloc _ _)
    clear hG
    go_wp2_with fail
    clear hmk
    rw [HG.out]
    rename World => wo
    go_loopw [28] (fun q wq => ∃ p : Nat, p ≤ m ∧ q = .int .i64 p ∧ BlkB wq G (List.replicate p 120 ++ List.replicate (m - p) 0) ∧ Below G wo wq) (fun q _ => m - (intOf q).toNat)
    case atStart => exact ⟨0, by omega, rfl, HBK0.out, HB0.out⟩
    case round =>
      obtain ⟨p, hp, rfl, hbk, hbq⟩ := hrel
      have HBK := Lib.hid hbk
      have HBQ := Lib.hid hbq
      clear hbk hbq
      by_cases hpm : p < m
      · obtain ⟨r, rfl⟩ : ∃ r, m = p + 1 + r := ⟨m - (p + 1), by omega⟩
        have er : p + 1 + r - p = r + 1 := by omega
        have hbk := HBK.out
        rw [er] at hbk
        have HBK := Lib.hid hbk
        have q0 := HBK.out.cell (k := p) (b := 0) (by rw [List.getElem?_append_right (by rw [List.length_replicate]; exact Nat.le_refl _), List.length_replicate, Nat.sub_self]; rfl)
        have p0 := HBK.out.frozen p
        have HBK2 := Lib.hid (HBK.out.put120 p)
        have hpm' : (p : Int) < (p : Int) + 1 + r := by omega
        clear er hbk
        go_wp2_with fail
        go_roundw
        case rel =>
          refine ⟨p + 1, by omega, by go_num, ?_, HBQ.out.setCell (p := ⟨G, _, none⟩) (Nat.le_refl _) _⟩
          have h := HBK2.out
          rw [rep_set] at h
          rw [show p + 1 + r - (p + 1) = r by omega]
          exact h
        case measure => simp [intOf]; omega
      · obtain rfl : p = m := by omega
        have hbk := HBK.out
        rw [Nat.sub_self] at hbk
        have HTF := Lib.hid (BlkB.own (n := p) (base := w.heap.size) hbk (by rw [List.length_append, List.length_replicate, List.length_replicate]; rfl) (by have := HG.out; omega) (by omega))
        obtain ⟨S, hS⟩ : ∃ S, str (List.replicate p 120) = S := ⟨_, rfl⟩
        have HS : Hid (str (List.replicate p 120 ++ List.replicate 0 0) = S) := Lib.hid (by rw [← hS]; simp)
        have HTX : Hid (tx s = ⟨2, 0, S, false⟩) := Lib.hid (by rw [HTX.out, hS])
        have hbq : Below wo.heap.size wo wr := by rw [HG.out]; exact HBQ.out
        have HKF := Lib.hid (World.ownsRow.kept (row := none) (e := 41) HK.out ⟨hbq.os, hbq.tape, hbq.output, hbq.size, fun k hk _ => hbq.block k hk⟩ (by cases u3.ownBlock <;> simp))
        have HVF := Lib.hid (ownV_kept HV.out hbq)
        have HK0 := HKF
        have HV0 := HVF
        have HBF : Hid (Below w.heap.size wo wr) := Lib.hid (hbq.mono hszr)
        have hszq := hbq.size
        have hcv0 := conv_str HS.out HTF.out
        have hTT : True := trivial
        clear hbk hbq hS
        go_wp2_with fail
        go_region_held3 (fun w' => (convert 24 9 (.slice (some ⟨G, 0, none⟩) p p)).run Tryd.prog w' = .ok (.string S) w') (first | exact conv_str HS.out HTF.out | exact conv_str HS.out (OwnB.drew HTF.out) | exact conv_str HS.out (HTF.out.alloc _) | exact conv_str HS.out (OwnB.drew (HTF.out.alloc _)) | exact conv_str HS.out ((HTF.out.alloc _).alloc _) | exact conv_str HS.out (OwnB.drew ((HTF.out.alloc _).alloc _)))
          (first
            | (refine step_app_k (by rfl) _ _ (by rfl) w.heap.size u3 _ _ (by rfl) (by first | exact HKF.out.alloc _ | exact (HKF.out.alloc _).alloc _ | exact HKF.out) _ _ 1 _ (by rfl) (by first | exact HLK.out | exact lies_drew (lies_lit _ _ _ 1 1 (by rfl)) | exact lies_lit _ _ _ 1 1 (by rfl) | exact lies_drew (lies_alloc (lies_lit _ _ _ 1 1 (by rfl)) (by rw [size_alloc] <;> omega) _) | exact lies_alloc (lies_lit _ _ _ 1 1 (by rfl)) (by rw [size_alloc] <;> omega) _ | exact lies_drew (lies_at _ _ _ 1 1 _ (size_alloc _ _) (by rfl)) | exact lies_at _ _ _ 1 1 _ (size_alloc _ _) (by rfl)) (one1 _ _) (by omega) (by first | omega | (rw [sz_ad]; omega) | (rw [sz_aad]; omega) | (rw [size_alloc]; omega)) ?_; intro vk wk hok hgk; have HBN := Lib.hid (below_kin (B := w.heap.size) (w0 := wo) (by first | exact HBF.out | exact HBF.out.trans (bel_ad _ _ (by omega)) | exact HBF.out.trans (bel_aad _ _ _ (by omega)) | exact HBF.out.trans (bel_a _ _ (by omega))) hgk hszr (by first | exact HKF.out.alloc _ | exact (HKF.out.alloc _).alloc _ | exact HKF.out)); have HVF := Lib.hid (ownV_kin (by first | exact HVF.out.alloc _ | exact (HVF.out.alloc _).alloc _ | exact HVF.out) (by first | exact HKF.out.alloc _ | exact (HKF.out.alloc _).alloc _ | exact HKF.out) hgk); have HTF := Lib.hid (ownB_kin (by first | exact HTF.out.alloc _ | exact (HTF.out.alloc _).alloc _ | exact HTF.out) (by first | exact HKF.out.alloc _ | exact (HKF.out.alloc _).alloc _ | exact HKF.out) (by decide) hgk); have hcvk := conv_own HTF.out; rw [HS.out] at hcvk; (try (have HLV := Lib.hid (lies_kin (sz := 4) (xs := (#[Value.int .u8 2, .int .i64 0, .string S, .bool false]).toList) (by first | exact lies_drew (lies_lit _ _ _ 4 1 (by rfl)) | exact lies_lit _ _ _ 4 1 (by rfl) | exact lies_drew (lies_alloc (lies_lit _ _ _ 4 1 (by rfl)) (by rw [size_alloc] <;> omega) _) | exact lies_alloc (lies_lit _ _ _ 4 1 (by rfl)) (by rw [size_alloc] <;> omega) _ | exact lies_drew (lies_at _ _ _ 4 1 _ (size_alloc _ _) (by rfl)) | exact lies_at _ _ _ 4 1 _ (size_alloc _ _) (by rfl)) hgk (own_ne HK0.out (by first | omega | (simp only [size_alloc]; omega)))))); (try simp only [size_alloc] at HLV); have HKF := Lib.hid hok; have hszk := HBN.out.size; have HBF := HBN; clear hok hgk HBN)
            | (refine step_app_v (by rfl) _ _ (by rfl) w.heap.size u4 _ _ (by rfl) (by first | exact HVF.out.alloc _ | exact (HVF.out.alloc _).alloc _ | exact HVF.out) _ _ 1 _ (by rfl) (by first | exact HLV.out | exact lies_drew (lies_lit _ _ _ 4 1 (by rfl)) | exact lies_lit _ _ _ 4 1 (by rfl) | exact lies_drew (lies_alloc (lies_lit _ _ _ 4 1 (by rfl)) (by rw [size_alloc] <;> omega) _) | exact lies_alloc (lies_lit _ _ _ 4 1 (by rfl)) (by rw [size_alloc] <;> omega) _ | exact lies_drew (lies_at _ _ _ 4 1 _ (size_alloc _ _) (by rfl)) | exact lies_at _ _ _ 4 1 _ (size_alloc _ _) (by rfl)) (one4 _ _ _ _) (by omega) (by first | omega | (rw [sz_ad]; omega) | (rw [sz_aad]; omega) | (rw [size_alloc]; omega)) ?_; intro vv wv hov hgv; have HBN := Lib.hid (below_kin (B := w.heap.size) (w0 := wo) (by first | exact HBF.out | exact HBF.out.trans (bel_ad _ _ (by omega)) | exact HBF.out.trans (bel_aad _ _ _ (by omega)) | exact HBF.out.trans (bel_a _ _ (by omega))) hgv hszr (by first | exact HVF.out.alloc _ | exact (HVF.out.alloc _).alloc _ | exact HVF.out)); have HKF := Lib.hid (ownK_kin (by first | exact HKF.out.alloc _ | exact (HKF.out.alloc _).alloc _ | exact HKF.out) (by first | exact HVF.out.alloc _ | exact (HVF.out.alloc _).alloc _ | exact HVF.out) hgv); have HTF := Lib.hid (ownB_kin (by first | exact HTF.out.alloc _ | exact (HTF.out.alloc _).alloc _ | exact HTF.out) (by first | exact HVF.out.alloc _ | exact (HVF.out.alloc _).alloc _ | exact HVF.out) (by decide) hgv); have hcvv := conv_own HTF.out; rw [HS.out] at hcvv; (try (have HLK := Lib.hid (lies_kin (sz := 1) (xs := (#[Value.int .u8 2]).toList) (by first | exact lies_drew (lies_lit _ _ _ 1 1 (by rfl)) | exact lies_lit _ _ _ 1 1 (by rfl) | exact lies_drew (lies_alloc (lies_lit _ _ _ 1 1 (by rfl)) (by rw [size_alloc] <;> omega) _) | exact lies_alloc (lies_lit _ _ _ 1 1 (by rfl)) (by rw [size_alloc] <;> omega) _ | exact lies_drew (lies_at _ _ _ 1 1 _ (size_alloc _ _) (by rfl)) | exact lies_at _ _ _ 1 1 _ (size_alloc _ _) (by rfl)) hgv (own_ne HV0.out (by first | omega | (simp only [size_alloc]; omega)))))); (try simp only [size_alloc] at HLK); have HVF := Lib.hid hov; have hszv := HBN.out.size; have HBF := HBN; clear hov hgv HBN))
        all_goals (
          have h1m : IntKind.i64.wrap (1 + (p : Int)) = 1 + p := by rw [IntKind.wrap_i64]; omega
          go_wp2_with fail
          go_roundw
          case rel =>
            refine ⟨j + 1, by omega, by omega, by go_num, ?_, own_eqK HKF.out rfl ?_, own_eqV HVF.out rfl ?_, HB.out.trans HBF.out⟩
            · rw [HTK.out, List.map_append]
              show _ = Value.int .i64 ((rSize ((x.take j).map tx ++ [tx s]) : Nat) : Int)
              rw [HRS.out]
              go_num
            · unfold u8s
              rw [List.replicate_succ', List.map_append]
              rfl
            · rw [HTK.out, List.map_append, vals_app]
              show _ = vals ((x.take j).map tx) ++ vals [tx s]
              rw [HTX.out]
              rfl
          case measure => simp [intOf] <;> omega)
end Go.Proofs.YtfabcnbblhadnaaDoor.Mem

