/- lapidaryref03's Same, Copy, Cut at the page's seat; lapidaryref05.Far. -/
import Derived.Test.YtbpgjpopmohbmaaPageT
import Derived.Test.YtbpgjpopmohbmaaPageJ
namespace Go.Proofs.Ytbpgjpopmohbmaa.Mem
open Go.RowKit Go.Proofs.Ytbpgjpopmohbmaa.Nums
set_option linter.unusedVariables false
set_option linter.unusedSimpArgs false
set_option maxRecDepth 100000
set_option maxHeartbeats 1000000
def str (x : List UInt8) : ByteArray := ⟨x.toArray⟩
theorem str_list (x : List UInt8) : (str x).toList = x := by rw [ByteArray.toList_eq]; simp [str]
theorem conv_sl {w : World} {B n c : Nat} {A : Option Addr} {x : List UInt8} (h : Sl w B 1 A n c (u8s x)) : (convert 31 9 (.slice A n c)).run Try.prog w = .ok (.string (str x)) w := by
  have hxl : x.length = n := by have := h.len; rw [u8s_len] at this; omega
  rw [run_convert_bytes_string w _ _ _ A n c Try.underlying31 Try.underlying5 Try.underlying9]
  have base : ∀ ad : Addr, A = some ad → (0 < n → At w B ad (u8s x)) → (Conv.bytesToString (.slice A n c)).run Try.prog w = .ok (.string (str x)) w := by
    intro ad hA ha
    subst hA
    have hl : (loadCells ad n).run Try.prog w = .ok ((x.map fun b => (b.toNat : Int)).map (Value.int .u8)).toArray w := by
      have hcells : ∀ j u, (u8s x)[j]? = some u → w.cell? (ad.add j) = some u := by
        rcases Nat.eq_zero_or_pos n with h0 | h0
        · have : x = [] := List.eq_nil_of_length_eq_zero (by omega)
          subst this; intro j u hu; simp [u8s] at hu
        · exact (ha h0).2
      have := run_loadCells_list (P := Try.prog) w ad (u8s x) hcells
      rw [u8s_len, hxl] at this
      rw [this]
      congr 2
      simp [u8s]
    rw [run_bytesToString w ad n c _ hl, foldl_push_bytes]
    congr 2
    apply ByteArray.ext
    simp [str, ByteArray.empty, ByteArray.emptyWithCapacity]
    show [] ++ List.map ((fun n => UInt8.ofNat n.toNat) ∘ fun b : UInt8 => (b.toNat : Int)) x = x
    rw [List.nil_append]
    conv => rhs; rw [← List.map_id x]
    apply List.map_congr_left
    intro b _
    simp
  cases A with
  | some ad => exact base ad rfl (fun h0 => by obtain ⟨ad', e, ha⟩ := h.at_ h0; injection e with e; subst e; exact ha)
  | none =>
    have hn : n = 0 := by have := h.le; have := h.nil rfl; omega
    have : x = [] := List.eq_nil_of_length_eq_zero (by omega)
    subst this hn
    simp [Conv.bytesToString, str]
    rfl
theorem same_any (x y : List UInt8) (A : Option Addr) (n c : Nat) (A' : Option Addr) (n' c' : Nat) (w : World) (hx : Sl w w.heap.size 1 A n c (u8s x)) (hy : Sl w w.heap.size 1 A' n' c' (u8s y)) :
    Calls Try.prog 18 #[.slice A n c, .slice A' n' c'] w fun e w' => e = .returned (.bool (decide (x = y))) ∧ w = w' := by
  have hcx := conv_sl hx
  have hcy := conv_sl hy
  have HX := Lib.hid hx
  have HY := Lib.hid hy
  have hs : (x == y) = decide (x = y) := by by_cases h : x = y <;> simp [h]
  have hsx := str_list x
  have hsy := str_list y
  clear hx hy
  go_enter Try.func18, Try.ntmps18
  go_wp2_with fail
  go_ret
  exact ⟨rfl, rfl⟩
theorem copy_any (x : List UInt8) (A : Option Addr) (n c : Nat) (w : World) (hx : Sl w w.heap.size 1 A n c (u8s x)) (hn : n ≤ 1000000) :
    Calls Try.prog 30 #[.slice A n c] w fun e w' => ∃ v, e = .returned v ∧ OwnB w' w.heap.size v n (u8s x) ∧ Below w.heap.size w w' := by
  have HX := Lib.hid hx
  clear hx
  go_enter Try.func30, Try.ntmps30
  go_wp2_with (at_builtin; go_loud (refine wpl_app_b rfl (.tmp 3) (.tmp 4) rfl w.heap.size _ 0 [] rfl (own_empty w) _ _ n _ rfl (HX.out.below (bel_alloc _ _)).lies (u8s_one _) (by omega) (by rw [size_alloc]; omega) ?_; intro v1 w1 hown1 hgrow1))
  go_ret
  exact ⟨_, rfl, own_eq hown1 (by omega) rfl, bel_app hgrow1⟩
theorem cut_any (x : List UInt8) (A : Option Addr) (n c m : Nat) (w : World) (hx : Sl w w.heap.size 1 A n c (u8s x)) (hm : m ≤ 1000000) :
    Calls Try.prog 29 #[.slice A n c, .int .i64 m] w fun e w' => ∃ v, e = .returned v ∧ OwnB w' w.heap.size v (min n m) (u8s (x.take m)) ∧ Below w.heap.size w w' := by
  have hc := hx.cap
  have hle := hx.le
  have HL : Hid (x.length = n) := Lib.hid (by have := hx.len; rw [u8s_len] at this; omega)
  unfold maxLen at hc
  obtain ⟨K, hK⟩ : ∃ K, min n m = K := ⟨_, rfl⟩
  have hKn : K ≤ n := by omega
  have hKm : K ≤ m := by omega
  have hKc : (K : Int) ≤ c := by omega
  have HE : Hid (x.take m = x.take K) := Lib.hid (by
    rcases Nat.le_total n m with h | h
    · rw [List.take_of_length_le (by rw [HL.out]; omega), List.take_of_length_le (by rw [HL.out]; omega)]
    · rw [show K = m by omega])
  have hxt := hx.take hKn
  rw [Nat.mul_one, u8s_take] at hxt
  have HX := Lib.hid hxt
  clear hxt
  rcases Nat.lt_or_ge m n with hmn | hmn
  · obtain rfl : K = m := by omega
    rw [hK]
    clear hx hK hle
    go_enter Try.func29, Try.ntmps29
    go_wp2_with (at_builtin; go_loud (refine wpl_app_b rfl (.tmp 5) (.tmp 11) rfl w.heap.size _ 0 [] rfl (own_empty w) _ _ K (u8s (x.take K)) rfl (HX.out.below (bel_alloc _ _)).lies (u8s_one _) (by omega) (by rw [size_alloc]; omega) ?_; intro v1 w1 hown1 hgrow1))
    go_ret
    exact ⟨_, rfl, own_eq hown1 (by omega) rfl, bel_app hgrow1⟩
  · obtain rfl : K = n := by omega
    have hmn2 : ¬ m < K := by omega
    rw [hK]
    clear hx hK hle
    go_enter Try.func29, Try.ntmps29
    go_wp2_with (at_builtin; go_loud (refine wpl_app_b rfl (.tmp 5) (.tmp 11) rfl w.heap.size _ 0 [] rfl (own_empty w) _ _ K (u8s (x.take K)) rfl (HX.out.below (bel_alloc _ _)).lies (u8s_one _) (by omega) (by rw [size_alloc]; omega) ?_; intro v1 w1 hown1 hgrow1))
    go_ret
    exact ⟨_, rfl, own_eq hown1 (by omega) (by rw [HE.out]; rfl), bel_app hgrow1⟩
theorem far_any (p s : Int) (w : World) : Calls Try.prog 40 #[.agg #[.int .i64 p, .int .i64 s]] w fun e w' => e = .returned (.bool (farB p s)) ∧ Below w.heap.size w w' := by
  have H0 : Hid (farB p s = if p = -1 ∧ s = -1 then false else decide (p < 0) || decide (65535 < p) || decide (s < 0) || decide (65534 < s)) := Lib.hid rfl
  by_cases q1 : p = -1
  · by_cases q2 : s = -1
    · subst q1 q2
      go_enter Try.func40, Try.ntmps40
      go_wp2_with fail
      go_ret
      exact ⟨rfl, bel_alloc _ _⟩
    · subst q1
      have q2b : (s == -1) = false := beq_eq_false_iff_ne.2 q2
      rw [if_neg (fun h => q2 h.2)] at H0
      go_enter Try.func40, Try.ntmps40
      go_wp2_with fail
      go_ret
      exact ⟨by rw [H0.out]; rfl, bel_alloc _ _⟩
  have q1b : (p == -1) = false := beq_eq_false_iff_ne.2 q1
  rw [if_neg (fun h => q1 h.1)] at H0
  by_cases h1 : p < 0
  · rw [decide_eq_true h1] at H0
    go_enter Try.func40, Try.ntmps40
    go_wp2_with fail
    go_ret
    exact ⟨by rw [H0.out]; rfl, bel_alloc _ _⟩
  rw [decide_eq_false h1] at H0
  by_cases h2 : 65535 < p
  · rw [decide_eq_true h2] at H0
    go_enter Try.func40, Try.ntmps40
    go_wp2_with fail
    go_ret
    exact ⟨by rw [H0.out]; rfl, bel_alloc _ _⟩
  rw [decide_eq_false h2] at H0
  by_cases h3 : s < 0
  · rw [decide_eq_true h3] at H0
    go_enter Try.func40, Try.ntmps40
    go_wp2_with fail
    go_ret
    exact ⟨by rw [H0.out]; rfl, bel_alloc _ _⟩
  rw [decide_eq_false h3] at H0
  by_cases h4 : 65534 < s
  · rw [decide_eq_true h4] at H0
    go_enter Try.func40, Try.ntmps40
    go_wp2_with fail
    go_ret
    exact ⟨by rw [H0.out]; rfl, bel_alloc _ _⟩
  · rw [decide_eq_false h4] at H0
    go_enter Try.func40, Try.ntmps40
    go_wp2_with fail
    go_ret
    exact ⟨by rw [H0.out]; rfl, bel_alloc _ _⟩
end Go.Proofs.Ytbpgjpopmohbmaa.Mem
