/- ref03: Same, Less, Copy, Cut. -/
import Derived.Test.YtfabcnbblhadnaaDoorKeyB
import Derived.Laws.BytesArg
namespace Go.Proofs.YtfabcnbblhadnaaDoor.Mem
open Go.RowKit Go.Proofs.YtfabcnbblhadnaaDoor.Nums
set_option linter.unusedVariables false
set_option maxRecDepth 100000
def str (x : List UInt8) : ByteArray := ⟨x.toArray⟩
theorem str_list (x : List UInt8) : (str x).toList = x := by rw [ByteArray.toList_eq]; simp [str]
theorem conv_sl {w : World} {B n c : Nat} {A : Option Addr} {x : List UInt8} (h : Sl w B 1 A n c (u8s x)) : (convert 24 9 (.slice A n c)).run Tryd.prog w = .ok (.string (str x)) w := by
  have hxl : x.length = n := by have := h.len; rw [u8s_len] at this; omega
  rw [run_convert_bytes_string w _ _ _ A n c Tryd.underlying24 Tryd.underlying5 Tryd.underlying9]
  have base : ∀ ad : Addr, A = some ad → (0 < n → At w B ad (u8s x)) → (Conv.bytesToString (.slice A n c)).run Tryd.prog w = .ok (.string (str x)) w := by
    intro ad hA ha
    subst hA
    have hl : (loadCells ad n).run Tryd.prog w = .ok ((x.map fun b => (b.toNat : Int)).map (Value.int .u8)).toArray w := by
      have hcells : ∀ j u, (u8s x)[j]? = some u → w.cell? (ad.add j) = some u := by
        rcases Nat.eq_zero_or_pos n with h0 | h0
        · have : x = [] := List.eq_nil_of_length_eq_zero (by omega)
          subst this; intro j u hu; simp [u8s] at hu
        · exact (ha h0).2
      have := run_loadCells_list (P := Tryd.prog) w ad (u8s x) hcells
      rw [u8s_len, hxl] at this
      rw [this]
      congr 2
      simp [u8s]
    rw [run_bytesToString w ad n c _ hl, foldl_push_bytes]
    congr 2
    apply ByteArray.ext
    simp [str, ByteArray.empty, ByteArray.emptyWithCapacity]
    show [] ++ List.map ((fun n => UInt8.ofNat n.toNat) ∘ fun b : UInt8 => (b.toNat : Int)) x = x
    rw [List.nil_append]
    conv => rhs; rw [← List.map_id x]
    apply List.map_congr_left
    intro b _
    simp
  cases A with
  | some ad => exact base ad rfl (fun h0 => by obtain ⟨ad', e, ha⟩ := h.at_ h0; injection e with e; subst e; exact ha)
  | none =>
    have hn : n = 0 := by have := h.le; have := h.nil rfl; omega
    have : x = [] := List.eq_nil_of_length_eq_zero (by omega)
    subst this hn
    simp [Conv.bytesToString, str]
    rfl
theorem same_any (x y : List UInt8) (A : Option Addr) (n c : Nat) (A' : Option Addr) (n' c' : Nat) (w : World) (hx : Sl w w.heap.size 1 A n c (u8s x)) (hy : Sl w w.heap.size 1 A' n' c' (u8s y)) :
    Calls Tryd.prog 18 #[.slice A n c, .slice A' n' c'] w fun e w' => e = .returned (.bool (decide (x = y))) ∧ w = w' := by
  have hcx := conv_sl hx
  have hcy := conv_sl hy
  have HX := Lib.hid hx
  have HY := Lib.hid hy
  have hs : (x == y) = decide (x = y) := by by_cases h : x = y <;> simp [h]
  have hsx := str_list x
  have hsy := str_list y
  clear hx hy
  go_enter Tryd.func18, Tryd.ntmps18
  go_wp2_with fail
  go_ret
  exact ⟨rfl, rfl⟩
theorem less_any (x y : List UInt8) (A : Option Addr) (n c : Nat) (A' : Option Addr) (n' c' : Nat) (w : World) (hx : Sl w w.heap.size 1 A n c (u8s x)) (hy : Sl w w.heap.size 1 A' n' c' (u8s y)) :
    Calls Tryd.prog 28 #[.slice A n c, .slice A' n' c'] w fun e w' => e = .returned (.bool (Op.bytesLess x y)) ∧ w = w' := by
  have hcx := conv_sl hx
  have hcy := conv_sl hy
  have hsx := str_list x
  have hsy := str_list y
  clear hx hy
  go_enter Tryd.func28, Tryd.ntmps28
  go_wp2_with fail
  go_ret
  exact ⟨rfl, rfl⟩
theorem bel_app {w w1 : World} {o : Obj} {v1 : Value} {n c : Nat} (hg : Kin (w.alloc o) w1 (.slice (some ⟨w.heap.size, 0, none⟩) n c) v1) : Below w.heap.size w w1 :=
  (Cell.bel_alloc w o).trans (hg.below (by rw [size_alloc]; omega) (fun k hk => by simp [Value.ownBlock] at hk; omega))
theorem own_empty (w : World) : OwnB (w.alloc (.cells #[] 5)) w.heap.size (.slice (some ⟨w.heap.size, 0, none⟩) 0 0) 0 [] := World.ownsRow_lit w #[] 0 (Nat.le_refl _) (by unfold maxLen; omega) rfl
theorem copy_any (x : List UInt8) (A : Option Addr) (n c : Nat) (w : World) (hx : Sl w w.heap.size 1 A n c (u8s x)) (hn : n ≤ 1000000) :
    Calls Tryd.prog 22 #[.slice A n c] w fun e w' => ∃ v, e = .returned v ∧ OwnB w' w.heap.size v n (u8s x) ∧ Below w.heap.size w w' := by
  have HX := Lib.hid hx
  clear hx
  go_enter Tryd.func22, Tryd.ntmps22
  go_wp2_with (at_builtin; go_loud (refine wpl_app_b rfl (.tmp 3) (.tmp 4) rfl w.heap.size _ 0 [] rfl (own_empty w) _ _ n _ rfl (HX.out.below (Cell.bel_alloc _ _)).lies (u8s_one _) (by omega) (by rw [size_alloc]; omega) ?_; intro v1 w1 hown1 hgrow1))
  go_ret
  exact ⟨_, rfl, own_eq hown1 (by omega) rfl, bel_app hgrow1⟩
theorem u8s_take (x : List UInt8) (k : Nat) : (u8s x).take k = u8s (x.take k) := by simp [u8s, List.map_take]
theorem cut_any (x : List UInt8) (A : Option Addr) (n c m : Nat) (w : World) (hx : Sl w w.heap.size 1 A n c (u8s x)) (hm : m ≤ 1000000) :
    Calls Tryd.prog 21 #[.slice A n c, .int .i64 m] w fun e w' => ∃ v, e = .returned v ∧ OwnB w' w.heap.size v (min n m) (u8s (x.take m)) ∧ Below w.heap.size w w' := by
  have hc := hx.cap
  have hle := hx.le
  have HL : Hid (x.length = n) := Lib.hid (by have := hx.len; rw [u8s_len] at this; omega)
  unfold maxLen at hc
  obtain ⟨K, hK⟩ : ∃ K, min n m = K := ⟨_, rfl⟩
  have hKn : K ≤ n := by omega
  have hKm : K ≤ m := by omega
  have hmin : min (n : Int) (m : Int) = (K : Int) := by omega
  have hKc : (K : Int) ≤ c := by omega
  have HE : Hid (x.take m = x.take K) := Lib.hid (by
    rcases Nat.le_total n m with h | h
    · rw [List.take_of_length_le (by rw [HL.out]; omega), List.take_of_length_le (by rw [HL.out]; omega)]
    · rw [show K = m by omega])
  have HX := Lib.hid (hx.take hKn)
  rw [hK]
  clear hx hK hle
  go_enter Tryd.func21, Tryd.ntmps21
  go_wp2_with (at_builtin; go_loud (refine wpl_app_b rfl (.tmp 5) (.tmp 11) rfl w.heap.size _ 0 [] rfl (own_empty w) _ _ K _ rfl (HX.out.below (Cell.bel_alloc _ _)).lies (by rw [Nat.mul_one, u8s_take]; exact u8s_one _) (by omega) (by rw [size_alloc]; omega) ?_; intro v1 w1 hown1 hgrow1))
  go_ret
  exact ⟨_, rfl, own_eq hown1 (by omega) (by rw [HE.out, Nat.mul_one, u8s_take]; rfl), bel_app hgrow1⟩
end Go.Proofs.YtfabcnbblhadnaaDoor.Mem
