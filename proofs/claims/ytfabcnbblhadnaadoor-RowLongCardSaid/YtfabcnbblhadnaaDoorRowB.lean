/- row.Bytes. -/
import Derived.Test.YtfabcnbblhadnaaDoorRowF
namespace Go.Proofs.YtfabcnbblhadnaaDoor.Mem
open Go.RowKit Go.Proofs.YtfabcnbblhadnaaDoor.Nums
open Go.Proofs.YtfabcnbblhadnaaDoor.Cell (U8)
set_option linter.unusedVariables false
set_option linter.unusedSimpArgs false
set_option maxRecDepth 100000
def nullsR : List V → Nat
  | [] => 0
  | v :: r => nullsR r + if v.k = 0 then 2 ^ r.length else 0
def nulls (l : List V) : Nat := nullsR l.reverse
theorem nulls_snoc (l : List V) (v : V) : nulls (l ++ [v]) = nulls l + if v.k = 0 then 2 ^ l.length else 0 := by
  unfold nulls
  rw [List.reverse_append]
  show nullsR (v :: l.reverse) = _
  rw [nullsR, List.length_reverse]
theorem nulls_lt (l : List V) : nulls l < 2 ^ l.length := by
  unfold nulls
  rw [← List.length_reverse]
  induction l.reverse with
  | nil => simp [nullsR]
  | cons v r ih =>
    rw [nullsR, List.length_cons, Nat.pow_succ]
    split <;> omega
def V.rbytes (v : V) : List UInt8 := rBytes v.k v.i v.s v.b
def rBody (l : List V) : List UInt8 := l.flatMap V.rbytes
/-- a row's bytes -/
def rowL (l : List V) : List UInt8 := UInt8.ofNat (nulls l) :: rBody l
theorem rBody_snoc (l : List V) (v : V) : rBody (l ++ [v]) = rBody l ++ v.rbytes := by simp [rBody]
theorem rBody_len (l : List V) : (rBody l).length = (l.map fun v => rLen v.k v.s).sum := by
  induction l with
  | nil => rfl
  | cons v l ih =>
    show (v.rbytes ++ rBody l).length = _
    rw [List.length_append, ih, List.map_cons, List.sum_cons]
    congr 1
    exact rBytes_len _ _ _ _
theorem rowL_len (l : List V) : (rowL l).length = rSize l := by
  show (rBody l).length + 1 = _
  rw [rBody_len, rSize]
  omega
theorem or_bit (X k : Nat) (h : X < 2 ^ k) : X ||| 2 ^ k = X + 2 ^ k := by
  apply Nat.eq_of_testBit_eq
  intro j
  rw [Nat.testBit_or, Nat.add_comm]
  rcases Nat.lt_trichotomy j k with hj | hj | hj
  · rw [Nat.testBit_two_pow_add_gt hj, Nat.testBit_two_pow_of_ne (by omega), Bool.or_false]
  · subst hj
    rw [Nat.testBit_two_pow_add_eq, Nat.testBit_two_pow_self, Bool.or_true, Nat.testBit_lt_two_pow h]
    rfl
  · have hp : 2 ^ (k + 1) ≤ 2 ^ j := Nat.pow_le_pow_right (by omega) hj
    rw [Nat.pow_succ] at hp
    have h2 : 2 ^ k < 2 ^ j := by omega
    rw [Nat.testBit_lt_two_pow (x := X) (by omega), Nat.testBit_lt_two_pow (x := 2 ^ k) h2, Nat.testBit_lt_two_pow (x := 2 ^ k + X) (by omega)]
    rfl
theorem or_cell (X k : Nat) (hk : k < 8) (hX : X < 2 ^ k) : bits .or .u8 ((X : Int) % 256) ((2 : Int) ^ k % 256) = (((UInt8.ofNat (X + 2 ^ k)).toNat : Nat) : Int) := by
  have h2 : 2 ^ k ≤ 2 ^ 7 := Nat.pow_le_pow_right (by omega) (by omega)
  have e1 : (X : Int) % 256 = (X : Int) := by omega
  have e2 : (2 : Int) ^ k % 256 = ((2 ^ k : Nat) : Int) := by
    have : (2 : Int) ^ k = ((2 ^ k : Nat) : Int) := by norm_cast
    rw [this]
    omega
  rw [e1, e2, u8_or_nat X (2 ^ k) (by omega) (by omega), or_bit X k hX, ofNat_int]
  omega
theorem make_b (C : Nat) (hC : C ≤ 1000) (h1 : 1 ≤ C) : ∃ cs : Array Value, cs.size = C ∧ cs.toList.take 1 = [.int .u8 0] ∧ ∀ w : World, (Instr.makeSlice 24 (.int .i64 1) (.int .i64 (C : Int))).run Tryd.prog w = .ok (.slice (some ⟨w.heap.size, 0, none⟩) 1 C) (w.alloc (.cells cs 5)) := by
  obtain ⟨i, hi, hz0, hz1, hz2⟩ := info_parts info5
  refine ⟨madeCells (Value.int .u8 0).cells C, size_madeCells _ _, ?_, fun w => ?_⟩
  · show (madeCells #[.int .u8 0] C).toList.take 1 = _
    rw [toList_madeCells_one, List.take_replicate, Nat.min_eq_left h1]
    rfl
  · have hr := run_make (P := Tryd.prog) w 24 5 i _ Tryd.underlying24 hi hz0 .i64 .i64 1 C (by omega) (by omega) (by rw [hz2]; omega) (by omega)
    rw [hz1, Nat.mul_one, Int.toNat_natCast] at hr
    exact hr
theorem own_made {w : World} {B C : Nat} {cs : Array Value} (hB : B ≤ w.heap.size) (hC : C ≤ 1000) (h1 : 1 ≤ C) (hs : cs.size = C) (ht : cs.toList.take 1 = [.int .u8 0]) : OwnB (w.alloc (.cells cs 5)) B (.slice (some ⟨w.heap.size, 0, none⟩) 1 C) 1 [.int .u8 0] :=
  ⟨rfl, .inr ⟨w.heap.size, C, cs, rfl, hB, heap_alloc_new w _, h1, by unfold maxLen; omega, by omega, ht⟩⟩
def RTold (ks : List UInt8) (l : List V) (w : World) (e : Ending) (w' : World) : Prop :=
  Below w.heap.size w w' ∧ ((fitsE ks l = 0 ∧ ∃ p, e = .returned (.tuple #[p, .int .i64 0]) ∧ OwnB w' w.heap.size p (rSize l) (u8s (rowL l))) ∨ (fitsE ks l ≠ 0 ∧ e = .returned (.tuple #[.slice none 0 0, .int .i64 (fitsE ks l)])))
theorem fits_zero {ks : List UInt8} {l : List V} (h : fitsE ks l = 0) : ksOk ks = true ∧ l.length = ks.length ∧ l.all V.right = true ∧ offs l ks = false ∧ rSize l ≤ 200 := by
  unfold fitsE at h
  split at h
  · rename_i h1
    rw [Bool.and_eq_true, decide_eq_true_eq] at h1
    split at h
    · rename_i h2
      split at h
      · cases h
      · rename_i h3
        split at h
        · cases h
        · rename_i h4
          exact ⟨h1.1, h1.2, h2, by simpa using h3, by omega⟩
    · cases h
  · cases h
theorem rbytes_any (ks : List UInt8) (l : List V) (A : Option Addr) (n c : Nat) (A' : Option Addr) (n' c' : Nat) (w : World) (hn : ks.length = n) (hl : l.length = n') (hk : Sl w w.heap.size 1 A n c (u8s ks)) (hx : Sl w w.heap.size 4 A' n' c' (vals l)) (hok : ∀ v ∈ l, v.ok) (hU : U8 w) :
    Calls Tryd.prog 32 #[.slice A n c, .slice A' n' c'] w (RTold ks l w) := by
  have HX := Lib.hid hx
  have HL := Lib.hid hl
  have C1 := Lib.hid (fits_any ks l A n c A' n' c' w hn hl hk hx hok hU)
  have hcap := hx.cap
  unfold maxLen at hcap
  have hle := hx.le
  by_cases hf : fitsE ks l = 0
  rotate_left
  · obtain ⟨F, hF⟩ : ∃ F, fitsE ks l = F := ⟨_, rfl⟩
    have HF := Lib.hid hF
    rw [hF] at C1 hf
    have hf1 : (F != 0) = true := by rw [bne_iff_ne]; exact hf
    have hf2 : (F == 0) = false := by rw [beq_eq_false_iff_ne]; exact hf
    have Hf := Lib.hid hf
    clear hf hF hk hx hn hl hok hU
    go_enter Tryd.func32, Tryd.ntmps32
    go_wp2_with fail
    refine C1.out.mono ?_
    rintro e w1 ⟨rfl, hb1⟩
    have HB1 := Lib.hid hb1
    clear hb1
    go_wp2_with fail
    go_ret2
    exact ⟨HB1.out, .inr ⟨by rw [HF.out]; exact Hf.out, by rw [HF.out]; rfl⟩⟩
  · obtain ⟨h1, h2, h3, h4, h5⟩ := fits_zero hf
    have hks := ksOk_len h1
    have hn8 : n' ≤ 8 := by omega
    have HZ := Lib.hid hf
    have HRT := Lib.hid h3
    rw [hf] at C1
    have hrs1 : 1 ≤ rSize l := by unfold rSize; omega
    obtain ⟨Z, hZ⟩ : ∃ Z, rSize l = Z := ⟨_, rfl⟩
    have CS := Lib.hid (fun w hs => size_any l A' n' c' w hl hn8 h3 hs)
    rw [hZ] at CS hrs1 h5
    obtain ⟨cs, hcs1, hcs2, hmk⟩ := make_b Z (by omega) hrs1
    have HCS := Lib.hid (And.intro hcs1 hcs2)
    have HZZ := Lib.hid hZ
    clear hf hk hx hn hl hok hU h1 h2 h3 h4 hcs1 hcs2 hZ
    go_enter Tryd.func32, Tryd.ntmps32
    go_wp2_with fail
    refine C1.out.mono ?_
    rintro e w1 ⟨rfl, hb1⟩
    have HB1 := Lib.hid hb1
    clear hb1 C1
    go_wp2_with fail
    refine (CS.out _ (HX.out.on HB1.out)).mono ?_
    rintro e w2 ⟨rfl, hb2⟩
    have HB2 := Lib.hid (Cell.bel_trans HB1.out hb2)
    clear hb2 CS HB1
    go_wp2_with fail
    have HOM := Lib.hid (own_made (w := w2) (B := w.heap.size) HB2.out.size (by omega) hrs1 HCS.out.1 HCS.out.2)
    have HB3 := Lib.hid (Cell.bel_trans HB2.out (Cell.bel_alloc w2 (.cells cs 5)))
    clear hmk
    go_loopw [7, 21] (fun p i wr => ∃ k : Nat, k ≤ n' ∧ i = .int .i64 k ∧ OwnB wr w.heap.size p (rSize (l.take k)) (u8s (rowL (l.take k))) ∧ Below w.heap.size w wr) (fun _ i _ => n' - (intOf i).toNat)
    case atStart => exact ⟨0, by omega, rfl, HOM.out, HB3.out⟩
    case round =>
      obtain ⟨k, hk, rfl, hown, hbr⟩ := hrel
      have HO := Lib.hid hown
      have HBR := Lib.hid hbr
      clear hown hbr
      by_cases hlt : k < n'
      · have hlt' : (k : Int) < n' := by omega
        obtain ⟨v, hv⟩ : ∃ v, l[k]? = some v := ⟨_, List.getElem?_eq_getElem (by rw [HL.out]; exact hlt)⟩
        obtain ⟨ad, hA, hAt⟩ := HX.out.at_ (by omega)
        subst hA
        obtain ⟨x0, x1, x2, x3⟩ := (hAt.below HBR.out).val hv
        have hvr := (List.all_eq_true.1 HRT.out) v (List.mem_of_getElem? hv)
        have hvk := right_kind hvr
        have hall : (l.take k).all V.right = true := by rw [List.all_eq_true]; intro x hx; exact (List.all_eq_true.1 HRT.out) x (List.mem_of_mem_take hx)
        have hsz : rSize (l.take k) ≤ 1 + 8 * 61 := by
          have h1 := rSize_le (l.take k) hall
          have h2 : (l.take k).length ≤ 8 := by rw [List.length_take]; omega
          have h3 := Nat.mul_le_mul_right 61 h2
          omega
        have htk : (l.take k).length = k := by rw [List.length_take, HL.out]; omega
        have HS : Hid (rSize (l.take (k + 1)) = rSize (l.take k) + rLen v.k v.s) := Lib.hid (by rw [take_succ_of hv, rSize_snoc])
        have HNL : Hid (nulls (l.take (k + 1)) = nulls (l.take k) + if v.k = 0 then 2 ^ k else 0) := Lib.hid (by rw [take_succ_of hv, nulls_snoc, htk])
        have HBD : Hid (rBody (l.take (k + 1)) = rBody (l.take k) ++ v.rbytes) := Lib.hid (by rw [take_succ_of hv, rBody_snoc])
        have HLT : Hid (nulls (l.take k) < 2 ^ k) := Lib.hid (by have := nulls_lt (l.take k); rw [htk] at this; exact this)
        have HBX := ValAt.new wr v 43
        have HXX := Lib.hid HBX
        have HVK := Lib.hid hvk
        clear hv hAt hvr hvk hall htk HBX
        cases hv0 : (v.k == 0)
        · have hv0' : v.k ≠ 0 := by simpa using hv0
          have HV0 := Lib.hid hv0'
          clear hv0'
          go_wp2_with fail
          refine (radd_any w.heap.size u7 _ _ v.k v.i v.s v.b _ (by have := HVK.out.1; have := HV0.out; omega) (HO.out.alloc _) (by rw [size_alloc]; have := HBR.out.size; omega) (by omega) (by have := HVK.out.2; omega)).mono ?_
          rintro e w5 ⟨v5, rfl, hown5, hk5⟩
          have HO5 := Lib.hid hown5
          have HK5 := Lib.hid ((Kin.alloc _ _ _).trans hk5)
          clear hown5 hk5 x0 x1 x2 x3
          go_wp2_with fail
          go_roundw
          case rel =>
            refine ⟨k + 1, by omega, by go_num, own_eq HO5.out HS.out.symm ?_, HBR.out.trans (own_below HK5.out HBR.out.size HO.out)⟩
            show _ = u8s (UInt8.ofNat (nulls (l.take (k + 1))) :: rBody (l.take (k + 1)))
            rw [HNL.out, if_neg HV0.out, Nat.add_zero, HBD.out]
            show u8s (rowL (l.take k)) ++ u8s v.rbytes = _
            rw [← u8s_app]
            rfl
          case measure => simp [intOf]; omega
        · have hv0' : v.k = 0 := by simpa using hv0
          have HV0 := Lib.hid hv0'
          obtain ⟨g, cap, hvv, hgB, hgl⟩ := World.ownsRow.form HO.out (by unfold rSize; omega)
          subst hvv
          have y0 : (wr.alloc (.cells #[.int .u8 v.k, .int .i64 v.i, .string v.s, .bool v.b] 43)).cell? ⟨g, 0, none⟩ = some (.int .u8 ((UInt8.ofNat (nulls (l.take k))).toNat : Int)) := by
            rw [(Cell.bel_alloc wr _).cell (p := ⟨g, 0, none⟩) hgl, World.ownsRow.cellAt HO.out 0 (by unfold rSize; omega)]
            rfl
          have y1 : (wr.alloc (.cells #[.int .u8 v.k, .int .i64 v.i, .string v.s, .bool v.b] 43)).frozen? ⟨g, 0, none⟩ = false := World.ownsRow.frozenAt (HO.out.alloc _) 0
          have hgp : (0 : Int) < (rSize (l.take k) : Nat) := by unfold rSize; omega
          clear hv0'
          have hk0 : (0 : Int) ≤ (k : Int) := Int.natCast_nonneg _
          have HOW := Lib.hid (HO.out.alloc (.cells #[.int .u8 v.k, .int .i64 v.i, .string v.s, .bool v.b] 43))
          have HBW := Lib.hid (Cell.bel_trans HBR.out (Cell.bel_alloc wr (.cells #[.int .u8 v.k, .int .i64 v.i, .string v.s, .bool v.b] 43)))
          go_wp2_with fail
          generalize wr.alloc (.cells #[.int .u8 v.k, .int .i64 v.i, .string v.s, .bool v.b] 43) = W at *
          clear x0 x1 x2 x3
          go_region
          all_goals go_wp2_with fail
          all_goals go_roundw
          case rel =>
            have hst := World.ownsRow.stored HOW.out 0 (.int .u8 (((UInt8.ofNat (nulls (l.take k) + 2 ^ k)).toNat : Nat) : Int))
            rw [or_cell _ k (by omega) HLT.out]
            refine ⟨k + 1, by omega, by go_num, own_eq hst.1 (by rw [HS.out, HV0.out]; rfl) ?_, (HBW.out.setCell (p := ⟨g, 0, none⟩) hgB _).drew⟩
            show _ = u8s (UInt8.ofNat (nulls (l.take (k + 1))) :: rBody (l.take (k + 1)))
            rw [HNL.out, if_pos HV0.out, HBD.out]
            have hrb : v.rbytes = [] := by unfold V.rbytes rBytes; rw [HV0.out]; rfl
            rw [hrb, List.append_nil]
            rfl
          case measure => simp [intOf]; omega
      · obtain rfl : k = n' := by omega
        have ht : l.take k = l := List.take_of_length_le (by rw [HL.out]; omega)
        rw [ht] at HO
        clear ht
        go_wp2_with fail
        go_ret2
        exact ⟨HBR.out, .inl ⟨HZ.out, _, rfl, HO.out⟩⟩
end Go.Proofs.YtfabcnbblhadnaaDoor.Mem
