/- key.Bytes: a row's bytes, or the error. -/
import Derived.Test.YtfabcnbblhadnaaDoorVals
namespace Go.Proofs.YtfabcnbblhadnaaDoor.Mem
open Go.RowKit Go.Proofs.YtfabcnbblhadnaaDoor.Nums
open Go.Proofs.YtfabcnbblhadnaaDoor.Cell (U8)
set_option linter.unusedVariables false
set_option maxRecDepth 100000
def Told (l : List V) (w : World) (e : Ending) (w' : World) : Prop :=
  Below w.heap.size w w' ∧ ((l.all V.right = true ∧ ∃ p, e = .returned (.tuple #[p, .int .i64 0]) ∧ OwnB w' w.heap.size p (rowBytes l).length (u8s (rowBytes l))) ∨ (l.all V.right = false ∧ e = .returned (.tuple #[.slice none 0 0, .int .i64 3])))
theorem kbytes_any (l : List V) (A : Option Addr) (n c : Nat) (w : World) (hn : l.length = n) (hn12 : n ≤ 12) (ha : Sl w w.heap.size 4 A n c (vals l)) (hok : ∀ v ∈ l, v.ok) (hU : U8 w) :
    Calls Tryd.prog 16 #[.slice A n c] w (Told l w) := by
  have HA := Lib.hid ha
  have HOK := Lib.hid hok
  have HU := Lib.hid hU
  have HN := Lib.hid hn
  clear ha hok hU hn
  go_enter Tryd.func16, Tryd.ntmps16
  go_wp2_with fail
  go_loopw [4, 9] (fun p c wr => ∃ k : Nat, k ≤ n ∧ c = .int .i64 k ∧ (l.take k).all V.right = true ∧ OwnB wr w.heap.size p (rowBytes (l.take k)).length (u8s (rowBytes (l.take k))) ∧ Below w.heap.size w wr) (fun _ c _ => n - (intOf c).toNat)
  case atStart => exact ⟨0, by omega, rfl, rfl, World.ownsRow_nil _ _ _ _, Below.refl _ _⟩
  case round =>
    obtain ⟨k, hk, rfl, hr, hownr, hbr⟩ := hrel
    have HO2 := Lib.hid hownr
    have HB2 := Lib.hid hbr
    have HR2 := Lib.hid hr
    clear hownr hbr hr
    by_cases hlt : k < n
    · have hlt' : (k : Int) < n := by omega
      obtain ⟨v, hv⟩ : ∃ v, l[k]? = some v := ⟨_, List.getElem?_eq_getElem (by rw [HN.out]; exact hlt)⟩
      obtain ⟨ad, hA, hAt⟩ := HA.out.at_ (by omega)
      subst hA
      replace hAt := hAt.below HB2.out
      obtain ⟨x0, x1, x2, x3⟩ := hAt.val hv
      have HV := Lib.hid hv
      clear hAt hv
      have hvok : v.ok := HOK.out v (List.mem_of_getElem? HV.out)
      have HBX := ValAt.new wr v 43
      have HU1 : Hid (U8 (wr.alloc (.cells #[.int .u8 v.k, .int .i64 v.i, .string v.s, .bool v.b] 43))) := Lib.hid ((HU.out.below HB2.out).below (Cell.bel_alloc _ _))
      have HXX := Lib.hid HBX
      have HVO := Lib.hid hvok
      clear HBX hvok
      have hrl := rowBytes_le _ HR2.out
      have htl : (l.take k).length ≤ k := List.length_take_le _ _
      have HC := Lib.hid (Cell.cright_all v.k v.i v.s v.b HVO.out.2 _ HU1.out)
      cases hrv : Cell.rightB v.k v.i v.s v.b
      · rw [hrv] at HC
        have HF : Hid (l.all V.right = false) := Lib.hid (by
          rw [List.all_eq_false]
          exact ⟨v, List.mem_of_getElem? HV.out, by show ¬ Cell.rightB v.k v.i v.s v.b = true; rw [hrv]; exact Bool.false_ne_true⟩)
        clear hrv hrl htl
        go_wp2_with fail
        refine HC.out.mono ?_
        rintro e w3 ⟨rfl, hb3⟩
        have HB3 := Lib.hid hb3
        clear hb3 x0 x1 x2 x3
        go_wp2_with fail
        go_ret2
        exact ⟨Cell.bel_trans (Cell.bel_trans HB2.out (Cell.bel_alloc _ _)) HB3.out, .inr ⟨HF.out, rfl⟩⟩
      · rw [hrv] at HC
        have HRV : Hid (v.right = true) := Lib.hid hrv
        clear hrv
        have hlen : (rowBytes (List.take k l)).length ≤ 1000 := by
          have : (l.take k).length * 62 ≤ 12 * 62 := Nat.mul_le_mul_right _ (by omega)
          omega
        clear hrl htl
        go_wp2_with fail
        refine HC.out.mono ?_
        rintro e w3 ⟨rfl, hb3⟩
        have HB3 := Lib.hid (Cell.bel_trans (Cell.bel_alloc wr _) hb3)
        obtain ⟨y0, y1, y2, y3⟩ := HXX.out.below (B := (wr.alloc (.cells #[.int .u8 v.k, .int .i64 v.i, .string v.s, .bool v.b] 43)).heap.size) (by rw [size_alloc]; show wr.heap.size < _; omega) hb3
        clear hb3 x0 x1 x2 x3
        have HO3 := Lib.hid (own_kept HO2.out HB3.out)
        have hsz3 : w.heap.size ≤ w3.heap.size := Nat.le_trans HB2.out.size HB3.out.size
        go_wp2_with fail
        refine (add_any w.heap.size u4 _ _ v.k v.i v.s v.b _ (right_kind HRV.out).1 HO3.out hsz3 hlen HVO.out.1 (Nat.le_trans (right_kind HRV.out).2 (by omega))).mono ?_
        rintro e w4 ⟨v4, rfl, hown4, hk4⟩
        have HO4 := Lib.hid hown4
        have HK4 := Lib.hid hk4
        clear hown4 hk4
        go_wp2_with fail
        go_roundw
        case rel =>
          refine ⟨k + 1, by omega, by go_num, ?_, own_eq HO4.out ?_ ?_, (Cell.bel_trans HB2.out HB3.out).trans (own_below HK4.out hsz3 HO3.out)⟩
          · rw [take_succ_of HV.out, List.all_append, HR2.out]; simp [HRV.out]
          · rw [take_succ_of HV.out, rowBytes_app, List.length_append]
            show _ = _ + (v.bytes ++ []).length
            rw [List.append_nil]
            unfold V.bytes
            rw [vBytes_len]
          · rw [take_succ_of HV.out, rowBytes_app, u8s_app]
            show _ = _ ++ u8s (v.bytes ++ [])
            rw [List.append_nil]
            rfl
        case measure => simp [intOf]; omega
    · obtain rfl : k = n := by omega
      have ht : l.take k = l := List.take_of_length_le (by rw [HN.out]; omega)
      rw [ht] at HO2 HR2
      clear ht
      go_wp2_with fail
      go_ret2
      exact ⟨HB2.out, .inl ⟨HR2.out, _, rfl, HO2.out⟩⟩
end Go.Proofs.YtfabcnbblhadnaaDoor.Mem
