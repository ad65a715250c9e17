/- key.Less: byte by byte. -/
import Derived.Test.YtfabcnbblhadnaaDoorKeyOrd
import Derived.Lib.Bytealg
import Derived.Lib.BytesEntry
import Derived.Laws.Externs
namespace Go.Proofs.YtfabcnbblhadnaaDoor.Mem
open Go.RowKit Go.Proofs.YtfabcnbblhadnaaDoor.Nums
open Go.Op (bytesLess)
open Go.Lib (compareBytes)
set_option linter.unusedVariables false
set_option linter.unusedSimpArgs false
set_option maxRecDepth 100000
theorem bytes_sl {w : World} {B n c : Nat} {A : Option Addr} {x : List UInt8} (h : Sl w B 1 A n c (u8s x)) : (Extern.Bytes.bytesOf (.slice A n c)).run Tryd.prog w = .ok (str x) w := by
  have hxl : x.length = n := by have := h.len; rw [u8s_len] at this; omega
  cases A with
  | none =>
    have hn : n = 0 := by have := h.le; have := h.nil rfl; omega
    have : x = [] := List.eq_nil_of_length_eq_zero (by omega)
    subst this
    rfl
  | some ad =>
    have hcells : ∀ j i, (x.map fun b => (b.toNat : Int))[j]? = some i → w.cell? (ad.add j) = some (.int .u8 i) := by
      intro j i hj
      rw [List.getElem?_map] at hj
      cases hb : x[j]? with
      | none => rw [hb] at hj; cases hj
      | some b =>
        rw [hb] at hj
        injection hj with hj
        rw [← hj]
        have hjl := (List.getElem?_eq_some_iff.1 hb).1
        obtain ⟨ad', e, ha⟩ := h.at_ (by omega)
        injection e with e
        subst e
        exact u8s_at ha hb
    have hr := Lib.run_loadBytesX (P := Tryd.prog) (w := w) (x.map fun b => (b.toNat : Int)) ad .empty hcells
    rw [List.length_map, hxl] at hr
    show (Extern.Bytes.loadBytes ad n .empty).run Tryd.prog w = _
    rw [hr]
    have e : Lib.bytesOf (x.map fun b => (b.toNat : Int)) = x := by
      unfold Lib.bytesOf
      rw [List.map_map]
      conv => rhs; rw [← List.map_id x]
      apply List.map_congr_left
      intro b _
      simp
    rw [e]
    congr 1
    apply ByteArray.ext
    show (#[] : Array UInt8) ++ x.toArray = x.toArray
    simp
theorem bcmp_any (x y : List UInt8) (A : Option Addr) (n c : Nat) (A' : Option Addr) (n' c' : Nat) (w : World) (hx : Sl w w.heap.size 1 A n c (u8s x)) (hy : Sl w w.heap.size 1 A' n' c' (u8s y)) :
    Calls Tryd.prog 43 #[.slice A n c, .slice A' n' c'] w fun e w' => e = .returned (.int .i64 (compareBytes x y)) ∧ w = w' := by
  have hb1 := bytes_sl hx
  have hb2 := bytes_sl hy
  have hcmp : (Extern.BytealgCompare.compare #[.slice A n c, .slice A' n' c']).run Tryd.prog w = .ok (.int .i64 (compareBytes x y)) w := by
    change Sem.run Tryd.prog (do pure (goInt (Extern.BytealgCompare.cmp (← Extern.Bytes.bytesOf (.slice A n c)) (← Extern.Bytes.bytesOf (.slice A' n' c'))))) w = _
    simp only [Sem.run_bind, hb1, hb2, Sem.run_pure, Result.andThen]
    rw [Lib.cmp_eq]
    rfl
  have hcall : (callFunc 58 #[.slice A n c, .slice A' n' c']).run Tryd.prog w = .ok (.value (.int .i64 (compareBytes x y))) w := by
    rw [run_callFunc_extern Tryd.func58 (by kernel_rfl) (by kernel_rfl) (by kernel_rfl) (e := Extern.BytealgCompare.compare) (by kernel_rfl), hcmp]
    rfl
  clear hx hy hb1 hb2 hcmp
  go_enter Tryd.func43, Tryd.ntmps43
  go_wp2_with fail
  go_ret
  exact ⟨rfl, rfl⟩
theorem kless_any (x y : List UInt8) (A : Option Addr) (n c : Nat) (A' : Option Addr) (n' c' : Nat) (w : World) (hx : Sl w w.heap.size 1 A n c (u8s x)) (hy : Sl w w.heap.size 1 A' n' c' (u8s y)) :
    Calls Tryd.prog 26 #[.slice A n c, .slice A' n' c'] w fun e w' => e = .returned (.bool (bytesLess x y)) ∧ w = w' := by
  have HC := Lib.hid (bcmp_any x y A n c A' n' c' w hx hy)
  have HL := Lib.hid (Cell.cb_less x y)
  clear hx hy
  go_enter Tryd.func26, Tryd.ntmps26
  go_wp2_with fail
  refine HC.out.mono ?_
  rintro e w' ⟨rfl, rfl⟩
  go_wp2_with fail
  go_ret
  exact ⟨by rw [HL.out]; rfl, rfl⟩
end Go.Proofs.YtfabcnbblhadnaaDoor.Mem
