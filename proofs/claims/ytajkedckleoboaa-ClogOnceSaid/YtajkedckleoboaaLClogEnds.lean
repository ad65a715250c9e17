/- ClogEnds: its walk. -/
import Derived.Test.YtajkedckleoboaaClogP
namespace Go.Proofs.Ytajkedckleoboaa.Clg
open Go.ChangeMaps Go.MapKept Go.RowKit Go.Proofs.Ytajkedckleoboaa.Nums Go.Proofs.Ytajkedckleoboaa.Mem
set_option linter.unusedVariables false
set_option linter.unusedSimpArgs false
set_option maxRecDepth 100000
theorem runs_rep : ∀ (k f : Nat), (runs f (List.replicate k 1)).length = k
  | 0, f => rfl
  | k + 1, f => by
    rw [List.replicate_succ]
    show (f :: runs (f + 1) (List.replicate k 1)).length = _
    rw [List.length_cons, runs_rep k]
theorem rep_snoc (k : Nat) : List.replicate k 1 ++ [1] = List.replicate (k + 1) 1 := by rw [List.replicate_succ']
theorem rep_ok (k : Nat) : ∀ s ∈ List.replicate k 1, 1 ≤ s ∧ s ≤ 3 := by
  intro s hs
  have := (List.mem_replicate.1 hs).2
  omega
theorem st_rep {f k x : Nat} (h1 : f ≤ x) (h2 : x < f + k) : stOf f (List.replicate k 1) x = 1 := by
  unfold stOf
  rw [if_pos h1, List.getD_eq_getElem?_getD, List.getElem?_replicate, if_pos (by omega)]
  rfl
set_option maxHeartbeats 4000000 in
theorem ends_walk (w : World) (a0 a1 : Int) (h0 : 0 ≤ a0 ∧ a0 ≤ 255) (h1 : 0 ≤ a1 ∧ a1 ≤ 255) :
    Calls Try.prog 6 #[.int .u8 a0, .int .u8 a1] w fun e w' => e = .returned (.bool true) ∧ Below w.heap.size w w' := by
  obtain ⟨a, rfl⟩ : ∃ a : Nat, a0 = a := ⟨a0.toNat, by omega⟩
  obtain ⟨b, rfl⟩ : ∃ b : Nat, a1 = b := ⟨a1.toNat, by omega⟩
  have ha : (a : Int) ≤ 255 := h0.2
  have hb : (b : Int) ≤ 255 := h1.2
  clear h0 h1
  obtain ⟨n, hn⟩ : ∃ n, a % 20 = n := ⟨_, rfl⟩
  have hn' : (a : Int) % 20 = n := by omega
  have hn1 : n ≤ 19 := by omega
  obtain ⟨m, hm⟩ : ∃ m, b % 5 = m := ⟨_, rfl⟩
  have hm' : (b : Int) % 5 = m := by omega
  have hm1 : m ≤ 4 := by omega
  obtain ⟨f, hf⟩ : ∃ f, 1099511627776 - n = f := ⟨_, rfl⟩
  have hf' : (1099511627776 : Int) - n = f := by omega
  have HF := Lib.hid hf
  have CN := Lib.hid (fun (w1 : World) (hb : Below w.heap.size w w1) => al_new (w0 := w) w1 f (by omega) (by omega) hb)
  clear hn hm hf
  go_enter Try.func6, Try.ntmps6
  go_wp2_with fail
  refine (awake_any w).mono ?_
  rintro e w1 ⟨rfl, hb1⟩
  have HB1 := Lib.hid hb1
  clear hb1
  go_wp2_with fail
  refine (CN.out _ HB1.out).mono ?_
  rintro e w2 ⟨P, rfl, ha2, _, _⟩
  have HA2 := Lib.hid ha2
  clear ha2 CN HB1
  go_wp2_with fail
  clear hm' hn'
  go_loopw [30] (fun i wr => ∃ k : Nat, k ≤ n + 1 + m ∧ i = .int .u64 k ∧ AL w wr No P f (List.replicate (min k (n + 1)) 1)) (fun i _ => n + 1 + m - (intOf i).toNat)
  case atStart => exact ⟨0, by omega, rfl, by rw [Nat.zero_min]; exact HA2.out⟩
  case round =>
    obtain ⟨k, hk, rfl, hal⟩ := hrel
    have HAL := Lib.hid hal
    clear hal HA2
    by_cases hlt : k < n + 1 + m
    · have hlt' : (k : Int) < n + 1 + m := by omega
      by_cases hkn : k ≤ n
      · have hkn' : (k : Int) ≤ n := by omega
        have CB := al_begin HAL.out (by rw [List.length_replicate]; have := HF.out; omega)
        rw [rep_snoc, Nat.min_eq_left (by omega), List.length_replicate, Int.natCast_add] at CB
        have CB := Lib.hid CB
        have hee : (((f : Int) + k) != ((f : Int) + k)) = false := by simp
        go_wp2_with fail
        refine CB.out.mono ?_
        rintro e w3 ⟨rfl, ha3, _⟩
        have HA3 := Lib.hid ha3
        clear ha3
        go_wp2_with fail
        go_roundw
        case rel => exact ⟨k + 1, by omega, by go_num, by rw [Nat.min_eq_left (by omega)]; exact HA3.out⟩
        case measure => simp [intOf]; omega
      · have hkn' : (n : Int) < k := by omega
        have CB := Lib.hid (al_full HAL.out (by rw [List.length_replicate]; have := HF.out; omega))
        go_wp2_with fail
        refine CB.out.mono ?_
        rintro e w3 ⟨rfl, rfl⟩
        go_wp2_with fail
        go_roundw
        case rel => exact ⟨k + 1, by omega, by go_num, by rw [show min (k + 1) (n + 1) = min k (n + 1) by omega]; exact HAL.out⟩
        case measure => simp [intOf]; omega
    · obtain rfl : k = n + 1 + m := by omega
      have hal := HAL.out
      rw [show min (n + 1 + m) (n + 1) = n + 1 by omega] at hal
      have CA := al_all hal
      rw [runs_rep] at CA
      have CA := Lib.hid CA
      have HA := Lib.hid hal
      clear hal
      go_wp2_with fail
      refine CA.out.mono ?_
      rintro e w3 ⟨A, c, rfl, hs, ha3, _, _⟩
      have CX := al_next ha3
      rw [List.length_replicate, show f + (n + 1) = 1099511627777 by have := HF.out; omega] at CX
      have CX := Lib.hid CX
      have CS := al_state ha3 (rep_ok _) (x := 1099511627776) (by omega)
      rw [st_rep (by have := HF.out; omega) (by have := HF.out; omega)] at CS
      have CS := Lib.hid CS
      clear hs ha3
      go_wp2_with fail
      refine CX.out.mono ?_
      rintro e w4 ⟨rfl, rfl⟩
      go_wp2_with fail
      refine CS.out.mono ?_
      rintro e w5 ⟨rfl, ha5, _⟩
      have CS2 := al_state ha5 (rep_ok _) (x := 1099511627777) (by omega)
      rw [st_out (.inr (by rw [List.length_replicate]; have := HF.out; omega))] at CS2
      have CS2 := Lib.hid CS2
      clear ha5
      go_wp2_with fail
      refine CS2.out.mono ?_
      rintro e w6 ⟨rfl, ha6, _⟩
      have HB := Lib.hid ha6.bel
      clear ha6
      go_wp2_with fail
      go_ret
      exact ⟨rfl, HB.out⟩
end Go.Proofs.Ytajkedckleoboaa.Clg
