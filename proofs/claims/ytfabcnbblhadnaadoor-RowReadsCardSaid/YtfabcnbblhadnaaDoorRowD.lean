/- row.Read. -/
import Derived.Test.YtfabcnbblhadnaaDoorRowG
import Derived.Test.YtfabcnbblhadnaaDoorKeyD
import Derived.Test.YtfabcnbblhadnaaDoorRowB
namespace Go.Proofs.YtfabcnbblhadnaaDoor.Mem
open Go.RowKit Go.Proofs.YtfabcnbblhadnaaDoor.Nums
open Go.Proofs.YtfabcnbblhadnaaDoor.Cell (U8)
set_option linter.unusedVariables false
set_option linter.unusedSimpArgs false
set_option maxRecDepth 100000
def V0 : V := ⟨0, 0, ⟨#[]⟩, false⟩
/-- the values of those kinds at the head of bytes, Null where a bit says so, and what lies behind them -/
def readK : List UInt8 → Nat → List UInt8 → Option (List V × List UInt8)
  | [], _, r => some ([], r)
  | k :: ks, z, r => if z % 2 = 1 then (readK ks (z / 2) r).map (fun p => (V0 :: p.1, p.2)) else
    match rFirst (k.toNat : Int) r with
    | none => none
    | some (v, r') => (readK ks (z / 2) r').map (fun p => (v :: p.1, p.2))
/-- the row of those kinds, or the error -/
def rRow (ks x : List UInt8) : Int × List V :=
  if ksOk ks then
    match x with
    | [] => (3, [])
    | b :: r => if 200 < r.length + 1 ∨ 2 ^ ks.length ≤ b.toNat then (3, []) else
      match readK ks b.toNat r with
      | some (l, []) => (0, l)
      | _ => (3, [])
  else (1, [])
def RdPost (r : Int × List V) (w : World) (e : Ending) (w' : World) : Prop :=
  Below w.heap.size w w' ∧ ((r.1 = 0 ∧ ∃ p, e = .returned (.tuple #[p, .int .i64 0]) ∧ OwnV w' w.heap.size p r.2.length (vals r.2)) ∨ (r.1 ≠ 0 ∧ r.2 = [] ∧ e = .returned (.tuple #[.slice none 0 0, .int .i64 r.1])))
theorem rd_no {r : Int × List V} {E : Int} (h : r = (E, [])) (hE : E ≠ 0) {w w' : World} (hb : Below w.heap.size w w') : RdPost r w (.returned (.tuple #[.slice none 0 0, .int .i64 E])) w' := by
  subst h
  exact ⟨hb, .inr ⟨hE, rfl, rfl⟩⟩
theorem made_0 : madeCells #[Value.int .u8 0, .int .i64 0, .string ⟨#[]⟩, .bool false] (0 * 4) = (vals (List.replicate 0 V0)).toArray := by kernel_rfl
theorem made_1 : madeCells #[Value.int .u8 0, .int .i64 0, .string ⟨#[]⟩, .bool false] (1 * 4) = (vals (List.replicate 1 V0)).toArray := by kernel_rfl
theorem made_2 : madeCells #[Value.int .u8 0, .int .i64 0, .string ⟨#[]⟩, .bool false] (2 * 4) = (vals (List.replicate 2 V0)).toArray := by kernel_rfl
theorem made_3 : madeCells #[Value.int .u8 0, .int .i64 0, .string ⟨#[]⟩, .bool false] (3 * 4) = (vals (List.replicate 3 V0)).toArray := by kernel_rfl
theorem made_4 : madeCells #[Value.int .u8 0, .int .i64 0, .string ⟨#[]⟩, .bool false] (4 * 4) = (vals (List.replicate 4 V0)).toArray := by kernel_rfl
theorem made_5 : madeCells #[Value.int .u8 0, .int .i64 0, .string ⟨#[]⟩, .bool false] (5 * 4) = (vals (List.replicate 5 V0)).toArray := by kernel_rfl
theorem made_6 : madeCells #[Value.int .u8 0, .int .i64 0, .string ⟨#[]⟩, .bool false] (6 * 4) = (vals (List.replicate 6 V0)).toArray := by kernel_rfl
theorem made_7 : madeCells #[Value.int .u8 0, .int .i64 0, .string ⟨#[]⟩, .bool false] (7 * 4) = (vals (List.replicate 7 V0)).toArray := by kernel_rfl
theorem made_8 : madeCells #[Value.int .u8 0, .int .i64 0, .string ⟨#[]⟩, .bool false] (8 * 4) = (vals (List.replicate 8 V0)).toArray := by kernel_rfl
theorem made_v (n : Nat) (h : n ≤ 8) : madeCells #[.int .u8 0, .int .i64 0, .string ⟨#[]⟩, .bool false] (n * 4) = (vals (List.replicate n V0)).toArray := by
  match n, h with
  | 0, _ => exact made_0
  | 1, _ => exact made_1
  | 2, _ => exact made_2
  | 3, _ => exact made_3
  | 4, _ => exact made_4
  | 5, _ => exact made_5
  | 6, _ => exact made_6
  | 7, _ => exact made_7
  | 8, _ => exact made_8
theorem make_v (n : Nat) (hn : n ≤ 8) (w : World) : (Instr.makeSlice 22 (.int .i64 (n : Int)) (.int .i64 (n : Int))).run Tryd.prog w = .ok (.slice (some ⟨w.heap.size, 0, none⟩) n n) (w.alloc (.cells (vals (List.replicate n V0)).toArray 43)) := by
  obtain ⟨i, hi, hz0, hz1, hz2⟩ := info_parts infoV
  have hr := run_make (P := Tryd.prog) w 22 43 i _ Tryd.underlying22 hi hz0 .i64 .i64 n n (by omega) (by omega) (by rw [hz2]; omega) (by omega)
  rw [hz1, Int.toNat_natCast] at hr
  rw [← made_v n hn]
  exact hr
theorem shr_ne {n : Nat} {b : UInt8} (h : 2 ^ n ≤ b.toNat) : ((b.toNat : Int) / 2 ^ n != 0) = true := by
  have e : ((b.toNat : Int) / 2 ^ n) = ((b.toNat / 2 ^ n : Nat) : Int) := by push_cast; rfl
  rw [e, bne_iff_ne]
  have := Nat.div_pos h (Nat.two_pow_pos n)
  omega
theorem shr_eq {n : Nat} {b : UInt8} (h : b.toNat < 2 ^ n) : ((b.toNat : Int) / 2 ^ n != 0) = false := by
  have e : ((b.toNat : Int) / 2 ^ n) = ((b.toNat / 2 ^ n : Nat) : Int) := by push_cast; rfl
  rw [e, Nat.div_eq_of_lt h]
  rfl
theorem rread_1 (ks x : List UInt8) (A : Option Addr) (n c : Nat) (A' : Option Addr) (n' c' : Nat) (w : World) (hk : Sl w w.heap.size 1 A n c (u8s ks)) (h : ksOk ks = false) :
    Calls Tryd.prog 36 #[.slice A n c, .slice A' n' c'] w (RdPost (rRow ks x) w) := by
  have C1 := Lib.hid (kinds_any ks A n c w hk)
  have HR : Hid (rRow ks x = (1, [])) := Lib.hid (by unfold rRow; rw [h]; rfl)
  rw [h] at C1
  clear hk h
  go_enter Tryd.func36, Tryd.ntmps36
  go_wp2_with fail
  refine C1.out.mono ?_
  rintro e w1 ⟨rfl, rfl⟩
  go_wp2_with fail
  go_ret2
  exact rd_no HR.out (by decide) (Below.refl _ _)
theorem rread_2 (ks : List UInt8) (A : Option Addr) (n c : Nat) (A' : Option Addr) (c' : Nat) (w : World) (hk : Sl w w.heap.size 1 A n c (u8s ks)) (h : ksOk ks = true) :
    Calls Tryd.prog 36 #[.slice A n c, .slice A' 0 c'] w (RdPost (rRow ks []) w) := by
  have C1 := Lib.hid (kinds_any ks A n c w hk)
  have HR : Hid (rRow ks [] = (3, [])) := Lib.hid (by unfold rRow; rw [h]; rfl)
  rw [h] at C1
  clear hk h
  go_enter Tryd.func36, Tryd.ntmps36
  go_wp2_with fail
  refine C1.out.mono ?_
  rintro e w1 ⟨rfl, rfl⟩
  go_wp2_with fail
  go_ret2
  exact rd_no HR.out (by decide) (Below.refl _ _)
theorem rread_3 (ks r : List UInt8) (b : UInt8) (A : Option Addr) (n c : Nat) (A' : Option Addr) (m c' : Nat) (w : World) (hk : Sl w w.heap.size 1 A n c (u8s ks)) (h : ksOk ks = true) (hm : r.length = m) (h2 : 200 < m + 1) (hc : m + 1 ≤ c') (hcm : c' ≤ maxLen) :
    Calls Tryd.prog 36 #[.slice A n c, .slice A' (m + 1 : Nat) c'] w (RdPost (rRow ks (b :: r)) w) := by
  have C1 := Lib.hid (kinds_any ks A n c w hk)
  have HR : Hid (rRow ks (b :: r) = (3, [])) := Lib.hid (by unfold rRow; rw [h, if_pos rfl]; exact if_pos (.inl (by omega)))
  rw [h] at C1
  have hne : ((m : Int) + 1 == 0) = false := by rw [beq_eq_false_iff_ne]; omega
  have h2' : (200 : Int) < (m : Int) + 1 := by omega
  unfold maxLen at hcm
  clear hk h hm
  go_enter Tryd.func36, Tryd.ntmps36
  go_wp2_with fail
  refine C1.out.mono ?_
  rintro e w1 ⟨rfl, rfl⟩
  go_wp2_with fail
  go_ret2
  exact rd_no HR.out (by decide) (Below.refl _ _)
theorem rread_4 (ks r : List UInt8) (b : UInt8) (n c : Nat) (A : Option Addr) (ad : Addr) (m c' : Nat) (w : World) (hn : ks.length = n) (hk : Sl w w.heap.size 1 A n c (u8s ks)) (h : ksOk ks = true) (hm : r.length = m) (h2 : m + 1 ≤ 200) (hx : Sl w w.heap.size 1 (some ad) (m + 1) c' (u8s (b :: r))) (hb : 2 ^ n ≤ b.toNat) :
    Calls Tryd.prog 36 #[.slice A n c, .slice (some ad) (m + 1 : Nat) c'] w (RdPost (rRow ks (b :: r)) w) := by
  have C1 := Lib.hid (kinds_any ks A n c w hk)
  have HR : Hid (rRow ks (b :: r) = (3, [])) := Lib.hid (by unfold rRow; rw [h, if_pos rfl]; exact if_pos (.inr (by rw [hn]; exact hb)))
  have hn8 := ksOk_len h
  rw [hn] at hn8
  obtain ⟨hn1, hn8⟩ := hn8
  rw [h] at C1
  have hne : ((m : Int) + 1 == 0) = false := by rw [beq_eq_false_iff_ne]; omega
  have h2' : ¬ (200 : Int) < (m : Int) + 1 := by omega
  have hsh := shr_ne hb
  have x0 : w.cell? ad = some (.int .u8 (b.toNat : Int)) := by
    obtain ⟨ad', hA, hAt⟩ := hx.at_ (by omega)
    injection hA with hA
    subst hA
    have h := u8s_at hAt (j := 0) (b := b) rfl
    rwa [show ad.add 0 = ad by simp [Addr.add]] at h
  clear hk h hm hx
  go_enter Tryd.func36, Tryd.ntmps36
  go_wp2_with fail
  refine C1.out.mono ?_
  rintro e w1 ⟨rfl, rfl⟩
  go_wp2_with fail
  go_ret2
  exact rd_no HR.out (by decide) (Below.refl _ _)
def BlkV (w : World) (G : Nat) (L : List V) : Prop := w.heap[G]? = some (.cells (vals L).toArray 43 (0, 0))
section
variable {w w' : World} {G : Nat} {L : List V}
theorem BlkV.below {B : Nat} (h : BlkV w G L) (hb : Below B w w') (hG : G < B) : BlkV w' G L := (hb.block G hG).trans h
theorem BlkV.cells {k : Nat} {v : V} (h : BlkV w G L) (hv : L[k]? = some v) : w.cell? ⟨G, k * 4, none⟩ = some (.int .u8 v.k) ∧ w.cell? ⟨G, k * 4 + 1, none⟩ = some (.int .i64 v.i) ∧ w.cell? ⟨G, k * 4 + 2, none⟩ = some (.string v.s) ∧ w.cell? ⟨G, k * 4 + 3, none⟩ = some (.bool v.b) := by
  have e : ∀ i, w.cell? ⟨G, i, none⟩ = (vals L)[i]? := fun i => by rw [cell_of_row w G i _ _ (0, 0) h]; simp
  exact ⟨(e _).trans (vals_at L k 0 v hv (by omega)), (e _).trans (vals_at L k 1 v hv (by omega)), (e _).trans (vals_at L k 2 v hv (by omega)), (e _).trans (vals_at L k 3 v hv (by omega))⟩
theorem BlkV.frozens (h : BlkV w G L) (k : Nat) : w.frozen? ⟨G, k * 4, none⟩ = false ∧ w.frozen? ⟨G, k * 4 + 1, none⟩ = false ∧ w.frozen? ⟨G, k * 4 + 2, none⟩ = false ∧ w.frozen? ⟨G, k * 4 + 3, none⟩ = false :=
  ⟨frozen_of_row w G _ _ _ h, frozen_of_row w G _ _ _ h, frozen_of_row w G _ _ _ h, frozen_of_row w G _ _ _ h⟩
theorem vals_set (L : List V) : ∀ (k : Nat) (v : V), vals (L.set k v) = ((((vals L).set (k * 4) (.int .u8 v.k)).set (k * 4 + 1) (.int .i64 v.i)).set (k * 4 + 2) (.string v.s)).set (k * 4 + 3) (.bool v.b) := by
  induction L with
  | nil => intro k v; rfl
  | cons a L ih =>
    intro k v
    cases k with
    | zero => rfl
    | succ k =>
      have e : (k + 1) * 4 = k * 4 + 4 := by omega
      show V.cells a ++ vals (L.set k v) = _
      rw [ih, e]
      rfl
theorem BlkV.put (h : BlkV w G L) (k : Nat) (v : V) : BlkV ((((w.setCell ⟨G, k * 4, none⟩ (.int .u8 v.k)).setCell ⟨G, k * 4 + 1, none⟩ (.int .i64 v.i)).setCell ⟨G, k * 4 + 2, none⟩ (.string v.s)).setCell ⟨G, k * 4 + 3, none⟩ (.bool v.b)) G (L.set k v) := by
  unfold BlkV
  rw [vals_set, ← List.setIfInBounds_toArray, ← List.setIfInBounds_toArray, ← List.setIfInBounds_toArray, ← List.setIfInBounds_toArray]
  exact heap_setCell_same _ _ _ _ _ _ (heap_setCell_same _ _ _ _ _ _ (heap_setCell_same _ _ _ _ _ _ (heap_setCell_same _ _ _ _ _ _ h)))
theorem BlkV.own {n base : Nat} (h : BlkV w G L) (hl : L.length = n) (hB : base ≤ G) (hn : n ≤ 8) : OwnV w base (.slice (some ⟨G, 0, none⟩) n n) n (vals L) :=
  ⟨by rw [vals_len, hl], .inr ⟨G, n, _, rfl, hB, h, Nat.le_refl _, by unfold maxLen; omega, by rw [List.size_toArray, vals_len, hl], by rw [List.toList_toArray, List.take_of_length_le (by rw [vals_len, hl]; exact Nat.le_refl _)]⟩⟩
end
theorem ks_at {ks : List UInt8} {k : Nat} {kb : UInt8} (h : ksOk ks = true) (hk : ks[k]? = some kb) : kOk kb = true := by
  unfold ksOk at h
  rw [Bool.and_eq_true] at h
  exact List.all_eq_true.1 h.2 kb (List.mem_of_getElem? hk)
theorem rfirst_any (kb : UInt8) (hk : kOk kb = true) (B : Nat) (x : List UInt8) (A : Option Addr) (n c : Nat) (w : World) (hB : B ≤ w.heap.size) (hn : n ≤ 1000000) (hx : Sl w B 1 A n c (u8s x)) (hU : U8 w) :
    Calls Tryd.prog 50 #[.int .u8 (kb.toNat : Int), .slice A n c] w (FPost B (rFirst (kb.toNat : Int) x) w) := by
  unfold kOk at hk
  rw [Bool.or_eq_true, Bool.or_eq_true, beq_iff_eq, beq_iff_eq, beq_iff_eq] at hk
  rcases hk with (rfl | rfl) | rfl
  · exact rfirst_num B x A n c w hB hn hx hU
  · exact rfirst_text B x A n c w hB hn hx hU
  · exact rfirst_bool B x A n c w hB hn hx hU
theorem rFirst_le {k : Int} {x y : List UInt8} {v : V} (h : rFirst k x = some (v, y)) : y.length ≤ x.length := by
  unfold rFirst at h
  split at h
  · unfold rNum at h
    split at h
    · injection h with h; injection h with _ h; subst h; rw [List.length_drop]; omega
    · cases h
  split at h
  · cases x with
    | nil => cases h
    | cons b r =>
      simp only [rText] at h
      split at h
      · split at h
        · injection h with h; injection h with _ h; subst h; rw [List.length_drop, List.length_cons]; omega
        · cases h
      · cases h
  · cases x with
    | nil => cases h
    | cons b r =>
      simp only [fBool] at h
      split at h
      · injection h with h; injection h with _ h; subst h; rw [List.length_cons]; omega
      · cases h
theorem bit_of (b : UInt8) (k : Nat) : bits .and .u8 ((b.toNat : Int) / 2 ^ k) 1 = ((b.toNat / 2 ^ k % 2 : Nat) : Int) := by
  have e : ((b.toNat : Int) / 2 ^ k) = ((b.toNat / 2 ^ k : Nat) : Int) := by push_cast; rfl
  have hb := b.toNat_lt
  have : b.toNat / 2 ^ k ≤ b.toNat := Nat.div_le_self _ _
  rw [e, show (1 : Int) = ((1 : Nat) : Int) from rfl, u8_and_nat _ 1 (by omega) (by decide), Nat.and_one_is_mod]
theorem bit_yes {b : UInt8} {k : Nat} (h : b.toNat / 2 ^ k % 2 = 1) : (bits .and .u8 ((b.toNat : Int) / 2 ^ k) 1 == 1) = true := by
  rw [bit_of, h]
  rfl
theorem bit_no {b : UInt8} {k : Nat} (h : ¬ b.toNat / 2 ^ k % 2 = 1) : (bits .and .u8 ((b.toNat : Int) / 2 ^ k) 1 == 1) = false := by
  rw [bit_of, beq_eq_false_iff_ne]
  omega
def contK (ks : List UInt8) (z : Nat) (ds : List V) : Option (V × List UInt8) → Option (List V × List UInt8)
  | none => none
  | some p => (readK ks z p.2).map (fun q => ((ds ++ [p.1]) ++ q.1, q.2))
theorem rread_5 (ks r : List UInt8) (b : UInt8) (n c : Nat) (A : Option Addr) (ad : Addr) (m c' : Nat) (w : World) (hn : ks.length = n) (hk : Sl w w.heap.size 1 A n c (u8s ks)) (h : ksOk ks = true) (hm : r.length = m) (h2 : m + 1 ≤ 200) (hx : Sl w w.heap.size 1 (some ad) (m + 1) c' (u8s (b :: r))) (hb : b.toNat < 2 ^ n) (hc1 : ¬ c' = 1) (hU : U8 w) :
    Calls Tryd.prog 36 #[.slice A n c, .slice (some ad) (m + 1 : Nat) c'] w (RdPost (rRow ks (b :: r)) w) := by
  have C1 := Lib.hid (kinds_any ks A n c w hk)
  have HR : Hid (rRow ks (b :: r) = match readK ks b.toNat r with | some (l, []) => (0, l) | _ => (3, [])) := Lib.hid (by unfold rRow; rw [h, if_pos rfl]; exact if_neg (by rw [hn]; omega))
  have HKO := Lib.hid h
  have HN := Lib.hid hn
  have HU := Lib.hid hU
  have hn8 := ksOk_len h
  rw [hn] at hn8
  obtain ⟨hn1, hn8⟩ := hn8
  rw [h] at C1
  have hne : ((m : Int) + 1 == 0) = false := by rw [beq_eq_false_iff_ne]; omega
  have h2' : ¬ (200 : Int) < (m : Int) + 1 := by omega
  have hsh := shr_eq hb
  have hle := hx.le
  have hcap := hx.cap
  unfold maxLen at hcap
  have x0 : w.cell? ad = some (.int .u8 (b.toNat : Int)) := by
    obtain ⟨ad', hA, hAt⟩ := hx.at_ (by omega)
    injection hA with hA
    subst hA
    have h := u8s_at hAt (j := 0) (b := b) rfl
    rwa [show ad.add 0 = ad by simp [Addr.add]] at h
  have HT := Lib.hid hx.tl
  have HM := Lib.hid hm
  have HK := Lib.hid hk
  have hmk := make_v n hn8
  have et : tlA (some ad) c' 1 = some ⟨ad.block, ad.off + 1, none⟩ := by unfold tlA; rw [if_neg hc1]; rfl
  rw [et] at HT
  clear et
  obtain ⟨G, hG⟩ : ∃ G, w.heap.size = G := ⟨_, rfl⟩
  have HG := Lib.hid hG
  have HB0 : Hid (Below w.heap.size w ((w.alloc (.cells (vals (List.replicate n V0)).toArray 43)).drew)) := Lib.hid (Cell.bel_alloc _ _).drew
  have HK0 : Hid (BlkV ((w.alloc (.cells (vals (List.replicate n V0)).toArray 43)).drew) G (List.replicate n V0)) := Lib.hid (by rw [← hG]; exact heap_alloc_new w _)
  clear hk h hm hx hU hn hG
  go_enter Tryd.func36, Tryd.ntmps36
  go_wp2_with fail
  refine C1.out.mono ?_
  rintro e w1 ⟨rfl, rfl⟩
  go_wp2_with fail
  go_region
  go_wp2_with fail
  rw [HG.out]
  go_loopw [7, 42] (fun p i wr => ∃ k : Nat, k ≤ n ∧ i = .int .i64 k ∧ ∃ (y : List UInt8) (ds : List V) (A1 : Option Addr) (n1 k1 : Nat), p = .slice A1 n1 k1 ∧ y.length = n1 ∧ n1 ≤ 199 ∧ Sl wr w.heap.size 1 A1 n1 k1 (u8s y) ∧ ds.length = k ∧ BlkV wr G (ds ++ List.replicate (n - k) V0) ∧ readK ks b.toNat r = (readK (ks.drop k) (b.toNat / 2 ^ k) y).map (fun q => (ds ++ q.1, q.2)) ∧ Below w.heap.size w wr) (fun _ i _ => n - (intOf i).toNat)
  case atStart => exact ⟨0, by omega, rfl, r, [], _, _, _, rfl, HM.out, by omega, HT.out.below HB0.out, rfl, HK0.out, by rw [List.drop_zero, Nat.pow_zero, Nat.div_one]; simp, HB0.out⟩
  case round =>
    obtain ⟨k, hk, rfl, y, ds, A1, n1, k1, rfl, hy, hn1', hsl, hds, hbk, hrd, hbr⟩ := hrel
    have HS := Lib.hid hsl
    have HY := Lib.hid hy
    have HD := Lib.hid hds
    have HBK := Lib.hid hbk
    have HRD := Lib.hid hrd
    have HBR := Lib.hid hbr
    have hGr : G < wr.heap.size := (Array.getElem?_eq_some_iff.1 hbk).1
    have hgw : G = w.heap.size := HG.out.symm
    have HGW := Lib.hid hgw
    clear hsl hy hds hbk hrd hbr HK0 HB0 hgw
    by_cases hlt : k < n
    · have hlt' : (k : Int) < n := by omega
      obtain ⟨kb, hkb⟩ : ∃ kb, ks[k]? = some kb := ⟨_, List.getElem?_eq_getElem (by rw [HN.out]; exact hlt)⟩
      obtain ⟨adk, rfl, hAt⟩ := HK.out.at_ (by omega)
      have xk := u8s_at (hAt.below HBR.out) hkb
      have HKB : Hid (kOk kb = true) := Lib.hid (ks_at HKO.out hkb)
      have HSP : Hid (ks.drop k = kb :: ks.drop (k + 1)) := Lib.hid (by obtain ⟨h1, h2⟩ := List.getElem?_eq_some_iff.1 hkb; rw [List.drop_eq_getElem_cons h1, h2])
      have HQ2 : Hid (b.toNat / 2 ^ k / 2 = b.toNat / 2 ^ (k + 1)) := Lib.hid (by rw [Nat.div_div_eq_div_mul, Nat.pow_succ])
      have HREP : Hid (List.replicate (n - k) V0 = V0 :: List.replicate (n - (k + 1)) V0) := Lib.hid (by rw [show n - k = (n - (k + 1)) + 1 by omega, List.replicate_succ])
      have hk0 : (0 : Int) ≤ (k : Int) := Int.natCast_nonneg _
      have hk8 : (k : Int) ≤ 8 := by omega
      clear hkb hAt
      by_cases hbit : b.toNat / 2 ^ k % 2 = 1
      · have hb1 := bit_yes hbit
        have HRN : Hid (readK ks b.toNat r = (readK (ks.drop (k + 1)) (b.toNat / 2 ^ (k + 1)) y).map (fun q => ((ds ++ [V0]) ++ q.1, q.2))) := Lib.hid (by
          rw [HRD.out, HSP.out]
          show (if b.toNat / 2 ^ k % 2 = 1 then _ else _ : Option _).map _ = _
          rw [if_pos hbit, HQ2.out, Option.map_map]
          congr 1
          funext q
          simp)
        clear hbit
        go_wp2_with fail
        go_roundw
        case rel => exact ⟨k + 1, by omega, by go_num, y, ds ++ [V0], A1, n1, k1, rfl, HY.out, hn1', HS.out, by rw [List.length_append, HD.out]; rfl, by have h := HBK.out; rw [HREP.out] at h; rw [List.append_assoc]; exact h, HRN.out, HBR.out⟩
        case measure => simp [intOf]; omega
      · have hb0 := bit_no hbit
        obtain ⟨R, hRR⟩ : ∃ R, rFirst (kb.toNat : Int) y = R := ⟨_, rfl⟩
        have HF : Hid (rFirst (kb.toNat : Int) y = R) := Lib.hid hRR
        have HRN : Hid (readK ks b.toNat r = contK (ks.drop (k + 1)) (b.toNat / 2 ^ (k + 1)) ds R) := Lib.hid (by
          rw [HRD.out, HSP.out]
          show (if b.toNat / 2 ^ k % 2 = 1 then _ else _ : Option _).map _ = _
          rw [if_neg hbit, HQ2.out, hRR]
          cases R with
          | none => rfl
          | some p =>
            show (Option.map _ _).map _ = Option.map _ _
            rw [Option.map_map]
            congr 1
            funext q
            simp)
        have CF := Lib.hid (rfirst_any kb HKB.out w.heap.size y A1 n1 k1 wr HBR.out.size (by omega) HS.out (HU.out.below HBR.out))
        rw [hRR] at CF
        clear hbit hRR
        go_wp2_with fail
        refine CF.out.mono ?_
        rintro e w3 ⟨hb3, h3⟩
        have HB3 := Lib.hid hb3
        obtain ⟨g0, g1, g2, g3⟩ := HBK.out.cells (k := k) (v := V0) (by rw [List.getElem?_append_right (by rw [HD.out]; exact Nat.le_refl _), HD.out, Nat.sub_self, HREP.out]; rfl)
        obtain ⟨f0, f1, f2, f3⟩ := HBK.out.frozens k
        have q0 := (hb3.cell (p := ⟨G, _, none⟩) hGr).trans g0
        have q1 := (hb3.cell (p := ⟨G, _, none⟩) hGr).trans g1
        have q2 := (hb3.cell (p := ⟨G, _, none⟩) hGr).trans g2
        have q3 := (hb3.cell (p := ⟨G, _, none⟩) hGr).trans g3
        have p0 := (hb3.frozen (p := ⟨G, _, none⟩) hGr).trans f0
        have p1 := (hb3.frozen (p := ⟨G, _, none⟩) hGr).trans f1
        have p2 := (hb3.frozen (p := ⟨G, _, none⟩) hGr).trans f2
        have p3 := (hb3.frozen (p := ⟨G, _, none⟩) hGr).trans f3
        clear hb3 g0 g1 g2 g3 f0 f1 f2 f3 CF
        cases R with
        | none =>
          simp only at h3
          subst h3
          go_wp2_with fail
          go_ret2
          refine rd_no ?_ (by decide) ?_
          · rw [HR.out, HRN.out]; rfl
          · exact (((((HBR.out.trans (HB3.out.mono HBR.out.size)).setCell (p := ⟨G, _, none⟩) (Nat.le_of_eq HG.out) _).setCell (p := ⟨G, _, none⟩) (Nat.le_of_eq HG.out) _).setCell (p := ⟨G, _, none⟩) (Nat.le_of_eq HG.out) _).setCell (p := ⟨G, _, none⟩) (Nat.le_of_eq HG.out) _)
        | some vr =>
          obtain ⟨⟨vk, vi, vs, vb⟩, y'⟩ := vr
          simp only at h3
          obtain ⟨A3, n3, c3, rfl, hlr, hs⟩ := h3
          have HLR := Lib.hid hlr
          have HS3 := Lib.hid hs
          have hle3 : n3 ≤ 199 := by have := rFirst_le HF.out; rw [hlr, HY.out] at this; omega
          have HBK4 := Lib.hid ((BlkV.below HBK.out HB3.out hGr).put k ⟨vk, vi, vs, vb⟩)
          have HB4 := Lib.hid (((((HBR.out.trans (HB3.out.mono HBR.out.size)).setCell (p := ⟨G, k * 4, none⟩) (Nat.le_of_eq HG.out) (.int .u8 vk)).setCell (p := ⟨G, k * 4 + 1, none⟩) (Nat.le_of_eq HG.out) (.int .i64 vi)).setCell (p := ⟨G, k * 4 + 2, none⟩) (Nat.le_of_eq HG.out) (.string vs)).setCell (p := ⟨G, k * 4 + 3, none⟩) (Nat.le_of_eq HG.out) (.bool vb))
          have HC4 := Lib.hid (((((HB3.out.mono (Nat.le_of_lt hGr)).setCell (p := ⟨G, k * 4, none⟩) (Nat.le_refl _) (.int .u8 vk)).setCell (p := ⟨G, k * 4 + 1, none⟩) (Nat.le_refl _) (.int .i64 vi)).setCell (p := ⟨G, k * 4 + 2, none⟩) (Nat.le_refl _) (.string vs)).setCell (p := ⟨G, k * 4 + 3, none⟩) (Nat.le_refl _) (.bool vb))
          clear hlr hs
          simp only [V.val]
          go_wp2_with fail
          go_roundw
          case rel =>
            refine ⟨k + 1, by omega, by go_num, y', ds ++ [V.mk vk vi vs vb], A3, n3, c3, rfl, HLR.out, hle3, HS3.out.below (by rw [HG.out]; exact HC4.out), by rw [List.length_append, HD.out]; rfl, ?_, HRN.out, HB4.out⟩
            have h := HBK4.out
            rw [HREP.out, List.set_append_right _ _ (by rw [HD.out]; exact Nat.le_refl _), HD.out, Nat.sub_self] at h
            rw [List.append_assoc]
            exact h
          case measure => simp [intOf]; omega
    · obtain rfl : k = n := by omega
      have HFIN : Hid (readK ks b.toNat r = some (ds, y)) := Lib.hid (by
        rw [HRD.out, List.drop_of_length_le (by rw [HN.out]; exact Nat.le_refl _)]
        show some (ds ++ [], y) = _
        rw [List.append_nil])
      cases y with
      | nil =>
        obtain rfl : n1 = 0 := by rw [← HY.out]; rfl
        go_wp2_with fail
        go_ret2
        refine ⟨HBR.out, .inl ⟨by rw [HR.out, HFIN.out], .slice (some ⟨G, 0, none⟩) k k, ?_, ?_⟩⟩
        · rfl
        · rw [HR.out, HFIN.out]
          show OwnV wr w.heap.size _ ds.length (vals ds)
          rw [HD.out]
          have h := HBK.out
          rw [Nat.sub_self, List.replicate_zero, List.append_nil] at h
          exact BlkV.own h HD.out (Nat.le_of_eq HG.out) (by omega)
      | cons z y =>
        obtain ⟨m1, rfl⟩ : ∃ m1, n1 = m1 + 1 := ⟨y.length, HY.out.symm⟩
        go_wp2_with fail
        go_ret2
        exact rd_no (by rw [HR.out, HFIN.out]) (by decide) HBR.out
theorem rread_6 (ks r : List UInt8) (b : UInt8) (n c : Nat) (A : Option Addr) (ad : Addr) (m c' : Nat) (w : World) (hn : ks.length = n) (hk : Sl w w.heap.size 1 A n c (u8s ks)) (h : ksOk ks = true) (hm : r.length = m) (h2 : m + 1 ≤ 200) (hx : Sl w w.heap.size 1 (some ad) (m + 1) c' (u8s (b :: r))) (hb : b.toNat < 2 ^ n) (hc1 : c' = 1) (hU : U8 w) :
    Calls Tryd.prog 36 #[.slice A n c, .slice (some ad) (m + 1 : Nat) c'] w (RdPost (rRow ks (b :: r)) w) := by
  have C1 := Lib.hid (kinds_any ks A n c w hk)
  have HR : Hid (rRow ks (b :: r) = match readK ks b.toNat r with | some (l, []) => (0, l) | _ => (3, [])) := Lib.hid (by unfold rRow; rw [h, if_pos rfl]; exact if_neg (by rw [hn]; omega))
  have HKO := Lib.hid h
  have HN := Lib.hid hn
  have HU := Lib.hid hU
  have hn8 := ksOk_len h
  rw [hn] at hn8
  obtain ⟨hn1, hn8⟩ := hn8
  rw [h] at C1
  have hne : ((m : Int) + 1 == 0) = false := by rw [beq_eq_false_iff_ne]; omega
  have h2' : ¬ (200 : Int) < (m : Int) + 1 := by omega
  have hsh := shr_eq hb
  have hle := hx.le
  have hcap := hx.cap
  unfold maxLen at hcap
  have x0 : w.cell? ad = some (.int .u8 (b.toNat : Int)) := by
    obtain ⟨ad', hA, hAt⟩ := hx.at_ (by omega)
    injection hA with hA
    subst hA
    have h := u8s_at hAt (j := 0) (b := b) rfl
    rwa [show ad.add 0 = ad by simp [Addr.add]] at h
  have HT := Lib.hid hx.tl
  have HM := Lib.hid hm
  have HK := Lib.hid hk
  have hmk := make_v n hn8
  subst hc1
  obtain rfl : m = 0 := by omega
  have et : tlA (some ad) 1 1 = some ad := rfl
  rw [et] at HT
  clear et
  obtain ⟨G, hG⟩ : ∃ G, w.heap.size = G := ⟨_, rfl⟩
  have HG := Lib.hid hG
  have HB0 : Hid (Below w.heap.size w ((w.alloc (.cells (vals (List.replicate n V0)).toArray 43)).drew)) := Lib.hid (Cell.bel_alloc _ _).drew
  have HK0 : Hid (BlkV ((w.alloc (.cells (vals (List.replicate n V0)).toArray 43)).drew) G (List.replicate n V0)) := Lib.hid (by rw [← hG]; exact heap_alloc_new w _)
  clear hk h hm hx hU hn hG
  go_enter Tryd.func36, Tryd.ntmps36
  go_wp2_with fail
  refine C1.out.mono ?_
  rintro e w1 ⟨rfl, rfl⟩
  go_wp2_with fail
  go_region
  go_wp2_with fail
  rw [HG.out]
  go_loopw [7, 42] (fun p i wr => ∃ k : Nat, k ≤ n ∧ i = .int .i64 k ∧ ∃ (y : List UInt8) (ds : List V) (A1 : Option Addr) (n1 k1 : Nat), p = .slice A1 n1 k1 ∧ y.length = n1 ∧ n1 ≤ 199 ∧ Sl wr w.heap.size 1 A1 n1 k1 (u8s y) ∧ ds.length = k ∧ BlkV wr G (ds ++ List.replicate (n - k) V0) ∧ readK ks b.toNat r = (readK (ks.drop k) (b.toNat / 2 ^ k) y).map (fun q => (ds ++ q.1, q.2)) ∧ Below w.heap.size w wr) (fun _ i _ => n - (intOf i).toNat)
  case atStart => exact ⟨0, by omega, rfl, r, [], _, _, _, rfl, HM.out, by omega, HT.out.below HB0.out, rfl, HK0.out, by rw [List.drop_zero, Nat.pow_zero, Nat.div_one]; simp, HB0.out⟩
  case round =>
    obtain ⟨k, hk, rfl, y, ds, A1, n1, k1, rfl, hy, hn1', hsl, hds, hbk, hrd, hbr⟩ := hrel
    have HS := Lib.hid hsl
    have HY := Lib.hid hy
    have HD := Lib.hid hds
    have HBK := Lib.hid hbk
    have HRD := Lib.hid hrd
    have HBR := Lib.hid hbr
    have hGr : G < wr.heap.size := (Array.getElem?_eq_some_iff.1 hbk).1
    have hgw : G = w.heap.size := HG.out.symm
    have HGW := Lib.hid hgw
    clear hsl hy hds hbk hrd hbr HK0 HB0 hgw
    by_cases hlt : k < n
    · have hlt' : (k : Int) < n := by omega
      obtain ⟨kb, hkb⟩ : ∃ kb, ks[k]? = some kb := ⟨_, List.getElem?_eq_getElem (by rw [HN.out]; exact hlt)⟩
      obtain ⟨adk, rfl, hAt⟩ := HK.out.at_ (by omega)
      have xk := u8s_at (hAt.below HBR.out) hkb
      have HKB : Hid (kOk kb = true) := Lib.hid (ks_at HKO.out hkb)
      have HSP : Hid (ks.drop k = kb :: ks.drop (k + 1)) := Lib.hid (by obtain ⟨h1, h2⟩ := List.getElem?_eq_some_iff.1 hkb; rw [List.drop_eq_getElem_cons h1, h2])
      have HQ2 : Hid (b.toNat / 2 ^ k / 2 = b.toNat / 2 ^ (k + 1)) := Lib.hid (by rw [Nat.div_div_eq_div_mul, Nat.pow_succ])
      have HREP : Hid (List.replicate (n - k) V0 = V0 :: List.replicate (n - (k + 1)) V0) := Lib.hid (by rw [show n - k = (n - (k + 1)) + 1 by omega, List.replicate_succ])
      have hk0 : (0 : Int) ≤ (k : Int) := Int.natCast_nonneg _
      have hk8 : (k : Int) ≤ 8 := by omega
      clear hkb hAt
      by_cases hbit : b.toNat / 2 ^ k % 2 = 1
      · have hb1 := bit_yes hbit
        have HRN : Hid (readK ks b.toNat r = (readK (ks.drop (k + 1)) (b.toNat / 2 ^ (k + 1)) y).map (fun q => ((ds ++ [V0]) ++ q.1, q.2))) := Lib.hid (by
          rw [HRD.out, HSP.out]
          show (if b.toNat / 2 ^ k % 2 = 1 then _ else _ : Option _).map _ = _
          rw [if_pos hbit, HQ2.out, Option.map_map]
          congr 1
          funext q
          simp)
        clear hbit
        go_wp2_with fail
        go_roundw
        case rel => exact ⟨k + 1, by omega, by go_num, y, ds ++ [V0], A1, n1, k1, rfl, HY.out, hn1', HS.out, by rw [List.length_append, HD.out]; rfl, by have h := HBK.out; rw [HREP.out] at h; rw [List.append_assoc]; exact h, HRN.out, HBR.out⟩
        case measure => simp [intOf]; omega
      · have hb0 := bit_no hbit
        obtain ⟨R, hRR⟩ : ∃ R, rFirst (kb.toNat : Int) y = R := ⟨_, rfl⟩
        have HF : Hid (rFirst (kb.toNat : Int) y = R) := Lib.hid hRR
        have HRN : Hid (readK ks b.toNat r = contK (ks.drop (k + 1)) (b.toNat / 2 ^ (k + 1)) ds R) := Lib.hid (by
          rw [HRD.out, HSP.out]
          show (if b.toNat / 2 ^ k % 2 = 1 then _ else _ : Option _).map _ = _
          rw [if_neg hbit, HQ2.out, hRR]
          cases R with
          | none => rfl
          | some p =>
            show (Option.map _ _).map _ = Option.map _ _
            rw [Option.map_map]
            congr 1
            funext q
            simp)
        have CF := Lib.hid (rfirst_any kb HKB.out w.heap.size y A1 n1 k1 wr HBR.out.size (by omega) HS.out (HU.out.below HBR.out))
        rw [hRR] at CF
        clear hbit hRR
        go_wp2_with fail
        refine CF.out.mono ?_
        rintro e w3 ⟨hb3, h3⟩
        have HB3 := Lib.hid hb3
        obtain ⟨g0, g1, g2, g3⟩ := HBK.out.cells (k := k) (v := V0) (by rw [List.getElem?_append_right (by rw [HD.out]; exact Nat.le_refl _), HD.out, Nat.sub_self, HREP.out]; rfl)
        obtain ⟨f0, f1, f2, f3⟩ := HBK.out.frozens k
        have q0 := (hb3.cell (p := ⟨G, _, none⟩) hGr).trans g0
        have q1 := (hb3.cell (p := ⟨G, _, none⟩) hGr).trans g1
        have q2 := (hb3.cell (p := ⟨G, _, none⟩) hGr).trans g2
        have q3 := (hb3.cell (p := ⟨G, _, none⟩) hGr).trans g3
        have p0 := (hb3.frozen (p := ⟨G, _, none⟩) hGr).trans f0
        have p1 := (hb3.frozen (p := ⟨G, _, none⟩) hGr).trans f1
        have p2 := (hb3.frozen (p := ⟨G, _, none⟩) hGr).trans f2
        have p3 := (hb3.frozen (p := ⟨G, _, none⟩) hGr).trans f3
        clear hb3 g0 g1 g2 g3 f0 f1 f2 f3 CF
        cases R with
        | none =>
          simp only at h3
          subst h3
          go_wp2_with fail
          go_ret2
          refine rd_no ?_ (by decide) ?_
          · rw [HR.out, HRN.out]; rfl
          · exact (((((HBR.out.trans (HB3.out.mono HBR.out.size)).setCell (p := ⟨G, _, none⟩) (Nat.le_of_eq HG.out) _).setCell (p := ⟨G, _, none⟩) (Nat.le_of_eq HG.out) _).setCell (p := ⟨G, _, none⟩) (Nat.le_of_eq HG.out) _).setCell (p := ⟨G, _, none⟩) (Nat.le_of_eq HG.out) _)
        | some vr =>
          obtain ⟨⟨vk, vi, vs, vb⟩, y'⟩ := vr
          simp only at h3
          obtain ⟨A3, n3, c3, rfl, hlr, hs⟩ := h3
          have HLR := Lib.hid hlr
          have HS3 := Lib.hid hs
          have hle3 : n3 ≤ 199 := by have := rFirst_le HF.out; rw [hlr, HY.out] at this; omega
          have HBK4 := Lib.hid ((BlkV.below HBK.out HB3.out hGr).put k ⟨vk, vi, vs, vb⟩)
          have HB4 := Lib.hid (((((HBR.out.trans (HB3.out.mono HBR.out.size)).setCell (p := ⟨G, k * 4, none⟩) (Nat.le_of_eq HG.out) (.int .u8 vk)).setCell (p := ⟨G, k * 4 + 1, none⟩) (Nat.le_of_eq HG.out) (.int .i64 vi)).setCell (p := ⟨G, k * 4 + 2, none⟩) (Nat.le_of_eq HG.out) (.string vs)).setCell (p := ⟨G, k * 4 + 3, none⟩) (Nat.le_of_eq HG.out) (.bool vb))
          have HC4 := Lib.hid (((((HB3.out.mono (Nat.le_of_lt hGr)).setCell (p := ⟨G, k * 4, none⟩) (Nat.le_refl _) (.int .u8 vk)).setCell (p := ⟨G, k * 4 + 1, none⟩) (Nat.le_refl _) (.int .i64 vi)).setCell (p := ⟨G, k * 4 + 2, none⟩) (Nat.le_refl _) (.string vs)).setCell (p := ⟨G, k * 4 + 3, none⟩) (Nat.le_refl _) (.bool vb))
          clear hlr hs
          simp only [V.val]
          go_wp2_with fail
          go_roundw
          case rel =>
            refine ⟨k + 1, by omega, by go_num, y', ds ++ [V.mk vk vi vs vb], A3, n3, c3, rfl, HLR.out, hle3, HS3.out.below (by rw [HG.out]; exact HC4.out), by rw [List.length_append, HD.out]; rfl, ?_, HRN.out, HB4.out⟩
            have h := HBK4.out
            rw [HREP.out, List.set_append_right _ _ (by rw [HD.out]; exact Nat.le_refl _), HD.out, Nat.sub_self] at h
            rw [List.append_assoc]
            exact h
          case measure => simp [intOf]; omega
    · obtain rfl : k = n := by omega
      have HFIN : Hid (readK ks b.toNat r = some (ds, y)) := Lib.hid (by
        rw [HRD.out, List.drop_of_length_le (by rw [HN.out]; exact Nat.le_refl _)]
        show some (ds ++ [], y) = _
        rw [List.append_nil])
      cases y with
      | nil =>
        obtain rfl : n1 = 0 := by rw [← HY.out]; rfl
        go_wp2_with fail
        go_ret2
        refine ⟨HBR.out, .inl ⟨by rw [HR.out, HFIN.out], .slice (some ⟨G, 0, none⟩) k k, ?_, ?_⟩⟩
        · rfl
        · rw [HR.out, HFIN.out]
          show OwnV wr w.heap.size _ ds.length (vals ds)
          rw [HD.out]
          have h := HBK.out
          rw [Nat.sub_self, List.replicate_zero, List.append_nil] at h
          exact BlkV.own h HD.out (Nat.le_of_eq HG.out) (by omega)
      | cons z y =>
        obtain ⟨m1, rfl⟩ : ∃ m1, n1 = m1 + 1 := ⟨y.length, HY.out.symm⟩
        go_wp2_with fail
        go_ret2
        exact rd_no (by rw [HR.out, HFIN.out]) (by decide) HBR.out
theorem rread_any (ks x : List UInt8) (A : Option Addr) (n c : Nat) (A' : Option Addr) (n' c' : Nat) (w : World) (hn : ks.length = n) (hm : x.length = n') (hk : Sl w w.heap.size 1 A n c (u8s ks)) (hx : Sl w w.heap.size 1 A' n' c' (u8s x)) (hU : U8 w) :
    Calls Tryd.prog 36 #[.slice A n c, .slice A' n' c'] w (RdPost (rRow ks x) w) := by
  cases h : ksOk ks
  · exact rread_1 ks x A n c A' n' c' w hk h
  cases x with
  | nil =>
    obtain rfl : n' = 0 := by rw [← hm]; rfl
    exact rread_2 ks A n c A' c' w hk h
  | cons b r =>
    obtain ⟨m, rfl⟩ : ∃ m, n' = m + 1 := ⟨r.length, hm.symm⟩
    have hm' : r.length = m := by simpa using hm
    by_cases h2 : 200 < m + 1
    · exact rread_3 ks r b A n c A' m c' w hk h hm' h2 hx.le hx.cap
    obtain ⟨ad, hA, _⟩ := hx.at_ (by omega)
    subst hA
    by_cases hb : 2 ^ n ≤ b.toNat
    · exact rread_4 ks r b n c A ad m c' w hn hk h hm' (by omega) hx hb
    by_cases hc : c' = 1
    · exact rread_6 ks r b n c A ad m c' w hn hk h hm' (by omega) hx (by omega) hc hU
    · exact rread_5 ks r b n c A ad m c' w hn hk h hm' (by omega) hx (by omega) hc hU
end Go.Proofs.YtfabcnbblhadnaaDoor.Mem
