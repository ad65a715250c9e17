/- lapidaryref09: All, Same. -/
import Derived.Test.YtnpmjljpaaaljaaClogR
namespace Go.Proofs.Ytnpmjljpaaaljaa.Clg
open Go.ChangeMaps Go.MapKept Go.RowKit Go.Proofs.Ytnpmjljpaaaljaa.Nums Go.Proofs.Ytnpmjljpaaaljaa.Mem
set_option linter.unusedVariables false
set_option linter.unusedSimpArgs false
set_option maxRecDepth 100000
attribute [local irreducible] wpQuiet
theorem rall_nil (w : World) : Calls Try.prog 76 #[.pointer none] w (NewU w []) := by
  go_enter Try.func76, Try.ntmps76
  go_wp2_with fail
  go_ret
  exact ⟨none, 0, rfl, World.ownsRow_nil _ _ _ _, Below.refl _ _⟩
theorem take_succ {S : List Nat} {k s : Nat} (h : S[k]? = some s) : S.take (k + 1) = S.take k ++ [s] := by
  rw [List.take_add_one, h]; rfl
section
variable {w w' : World} {F G : Nat → Prop} {Q f c : Nat} {S : List Nat} {A : Option Addr}
set_option maxHeartbeats 1000000 in
theorem rall_any (h : RF w F Q f S) : Calls Try.prog 76 #[.pointer (some ⟨Q, 0, none⟩)] w (NewU w (runs f S)) := by
  obtain ⟨A, c, h⟩ := h
  have H := Lib.hid h
  have x1 := h.blk.cell 1
  have hle := h.top
  have hc := h.le
  unfold maxLen at hc
  obtain ⟨n, hn⟩ : ∃ n, S.length = n := ⟨_, rfl⟩
  have HN := Lib.hid hn
  rw [hn] at x1 hle hc
  have hBk := Lib.hid h.blk
  clear h hn
  go_enter Try.func76, Try.ntmps76
  go_wp2_with fail
  go_loopw [3, 13] (fun v i wr => ∃ k : Nat, k ≤ n ∧ i = .int .i64 k ∧ ∃ A' c', v = .slice A' (runs f (S.take k)).length c' ∧ OwnU wr w.heap.size (.slice A' (runs f (S.take k)).length c') (runs f (S.take k)).length (u64s (runs f (S.take k))) ∧ Below w.heap.size w wr) (fun _ i _ => n - (intOf i).toNat)
  case atStart => exact ⟨0, by omega, rfl, none, 0, rfl, World.ownsRow_nil _ _ _ _, Below.refl _ _⟩
  case round =>
    obtain ⟨k, hk, rfl, A', c', rfl, ho, hb⟩ := hrel
    have HO := Lib.hid ho
    have HB := Lib.hid hb
    have hz := hb.size
    clear ho hb
    by_cases hlt : k < n
    · obtain ⟨s, hs⟩ : ∃ s, S[k]? = some s := ⟨_, List.getElem?_eq_getElem (by have := HN.out; omega)⟩
      obtain ⟨g, rfl, y0, _⟩ := (H.out.keep (w' := wr) (fun g hg => HB.out.block g (H.out.lt g hg)) HB.out.size).at_ hs
      have z0 := (hBk.out.below HB.out hBk.out.lt).cell 0
      have hlt' : (k : Int) < n := by omega
      have hrs := runs_snoc s (S.take k) f
      rw [← take_succ hs, List.length_take, Nat.min_eq_left (by have := HN.out; omega)] at hrs
      obtain ⟨R, hR⟩ : ∃ R, runs f (S.take k) = R := ⟨_, rfl⟩
      have hRl := runs_len (S.take k) f
      rw [List.length_take] at hRl
      rw [hR] at HO hrs hRl
      obtain ⟨r, hr⟩ : ∃ r, R.length = r := ⟨_, rfl⟩
      rw [hR, hr]
      have HR := Lib.hid hr
      rw [hr] at HO hRl
      have hr1 : r ≤ 1099511627777 := by omega
      have hfk : (f : Int) + (k : Int) ≤ 1099511627777 := by omega
      by_cases h1 : s = 1
      · subst h1
        rw [if_pos rfl] at hrs
        have HRS := Lib.hid hrs
        clear hs hrs hR hr hRl
        go_wp2_with (at_builtin; go_loud (refine wpl_app_u rfl (.tmp 20) (.tmp 28) rfl w.heap.size _ r (u64s R) rfl (HO.out.alloc _) _ _ 1 _ rfl (lies_lit _ _ _ 1 1 rfl) (one1 _ _) (by omega) (by rw [size_alloc]; omega) ?_; intro v1 w1 hown1 hg1; obtain ⟨A1, c1, hv1, _⟩ := Sl.of_own hown1; subst hv1))
        have hl : (runs f (S.take (k + 1))).length = r + 1 := by rw [HRS.out, List.length_append, HR.out]; rfl
        go_roundw
        case rel => exact ⟨k + 1, by omega, by go_num, A1, c1, by rw [hl], by rw [hl]; exact own_eqU hown1 rfl (by rw [HRS.out, u64s_app]; unfold u64s; push_cast; rfl), (HB.out.alloc hz _).trans (hg1.below (by rw [size_alloc]; omega) (fun g hg => (World.ownsRow.lt HO.out g hg).1))⟩
        case measure => simp [intOf]; omega
      · rw [if_neg h1, List.append_nil] at hrs
        have HRS := Lib.hid hrs
        have h1' : ((s : Int) == 1) = false := by rw [beq_eq_false_iff_ne]; omega
        clear hs hrs hR hr hRl
        go_wp2_with fail
        go_roundw
        case rel => exact ⟨k + 1, by omega, by go_num, A', c', by rw [HRS.out, HR.out], by rw [HRS.out, HR.out]; exact HO.out, HB.out⟩
        case measure => simp [intOf]; omega
    · obtain rfl : k = n := by omega
      have ht : S.take k = S := List.take_of_length_le (by have := HN.out; omega)
      rw [ht] at HO ⊢
      clear ht
      go_wp2_with fail
      go_ret
      exact ⟨A', c', rfl, HO.out, HB.out⟩
end
def sameB (R K : List Nat) : Bool := decide (R = K)
theorem same_no {R K : List Nat} {k a b : Nat} (h1 : R[k]? = some a) (h2 : K[k]? = some b) (h : a ≠ b) : sameB R K = false := by
  unfold sameB
  rw [decide_eq_false_iff_not]
  rintro rfl
  rw [h1] at h2
  injection h2 with h2
  exact h h2
set_option maxHeartbeats 1000000 in
theorem same_any {w : World} {A B : Option Addr} {c d : Nat} {R K : List Nat} (hR : SlU w A c R) (hK : SlU w B d K) :
    Calls Try.prog 48 #[.slice A R.length c, .slice B K.length d] w fun e w' => e = .returned (.bool (sameB R K)) ∧ ∃ m, w' = w.drewN m := by
  have HR := Lib.hid hR
  have HK := Lib.hid hK
  have hle := hR.le
  have hcap := hR.cap
  have hle2 := hK.le
  have hcap2 := hK.cap
  unfold maxLen at hcap hcap2
  obtain ⟨n, hn⟩ : ∃ n, R.length = n := ⟨_, rfl⟩
  obtain ⟨m, hm⟩ : ∃ m, K.length = m := ⟨_, rfl⟩
  have HN := Lib.hid hn
  have HM := Lib.hid hm
  rw [hn] at hle
  rw [hm] at hle2
  rw [hn, hm]
  clear hR hK hn hm
  by_cases hnm : n = m
  · subst hnm
    have hnn : ((n : Int) != (n : Int)) = false := by simp
    go_enter Try.func48, Try.ntmps48
    go_wp2_with fail
    go_loopw [13] (fun i wr => ∃ k : Nat, k ≤ n ∧ i = .int .i64 k ∧ (∀ j, j < k → R[j]? = K[j]?) ∧ ∃ q, wr = w.drewN q) (fun i _ => n - (intOf i).toNat)
    case atStart => exact ⟨0, by omega, rfl, fun j hj => absurd hj (by omega), 0, rfl⟩
    case round =>
      obtain ⟨k, hk, rfl, he, q, hq⟩ := hrel
      have HE := Lib.hid he
      have HQ := Lib.hid hq
      clear he
      by_cases hlt : k < n
      · obtain ⟨a, ha⟩ : ∃ a, R[k]? = some a := ⟨_, List.getElem?_eq_getElem (by have := HN.out; omega)⟩
        obtain ⟨b, hb⟩ : ∃ b, K[k]? = some b := ⟨_, List.getElem?_eq_getElem (by have := HM.out; omega)⟩
        obtain ⟨ad, rfl, y0⟩ := HR.out.at_ ha
        obtain ⟨ae, rfl, y1⟩ := HK.out.at_ hb
        have y0' : wr.cell? (ad.add k) = some (.int .u64 (a : Int)) := by rw [hq]; exact y0
        have y1' : wr.cell? (ae.add k) = some (.int .u64 (b : Int)) := by rw [hq]; exact y1
        have hlt' : (k : Int) < n := by omega
        clear hq y0 y1
        by_cases hab : a = b
        · subst hab
          have HA : Hid (R[k]? = K[k]?) := Lib.hid (by rw [ha, hb])
          have haa : ((a : Int) != (a : Int)) = false := by simp
          clear ha hb
          go_wp2_with fail
          go_quiet (fail)
          go_wp2_with fail
          go_roundw
          case rel => exact ⟨k + 1, by omega, by go_num, fun j hj => by
            rcases Nat.lt_or_ge j k with h | h
            · exact HE.out j h
            · obtain rfl : j = k := by omega
              exact HA.out, q + nq, by rw [HQ.out, World.drewN_drewN]⟩
          case measure => simp [intOf]; omega
        · have HS : Hid (sameB R K = false) := Lib.hid (same_no ha hb hab)
          have haa : ((a : Int) != (b : Int)) = true := by simp; omega
          clear ha hb
          go_wp2_with fail
          go_quiet (fail)
          go_wp2_with fail
          go_ret
          exact ⟨by rw [HS.out]; rfl, q + nq, by rw [HQ.out, World.drewN_drewN]⟩
      · obtain rfl : k = n := by omega
        have HS : Hid (sameB R K = true) := Lib.hid (by
          unfold sameB
          rw [decide_eq_true_iff]
          apply List.ext_getElem?
          intro j
          rcases Nat.lt_or_ge j k with h | h
          · exact HE.out j h
          · rw [List.getElem?_eq_none (by rw [HN.out]; exact h), List.getElem?_eq_none (by rw [HM.out]; exact h)])
        clear hq
        go_wp2_with fail
        go_ret
        exact ⟨by rw [HS.out]; rfl, q, HQ.out⟩
  · have HS : Hid (sameB R K = false) := Lib.hid (by
      unfold sameB
      rw [decide_eq_false_iff_not]
      rintro rfl
      exact hnm (HN.out.symm.trans HM.out))
    have hne : ((n : Int) != (m : Int)) = true := by simp; omega
    go_enter Try.func48, Try.ntmps48
    go_wp2_with fail
    go_ret
    exact ⟨by rw [HS.out]; rfl, 0, rfl⟩
end Go.Proofs.Ytnpmjljpaaaljaa.Clg
