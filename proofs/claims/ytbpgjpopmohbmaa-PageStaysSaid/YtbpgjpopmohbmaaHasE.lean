/- Insert, Stamp and Free, told of slots and versions. -/
import Derived.Test.YtbpgjpopmohbmaaHasD
namespace Go.Proofs.Ytbpgjpopmohbmaa.Mem
open Go.RowKit Go.Proofs.Ytbpgjpopmohbmaa.Nums
set_option linter.unusedVariables false
set_option linter.unusedSimpArgs false
set_option maxRecDepth 100000
set_option maxHeartbeats 1000000
attribute [local go_sem] nil_nil some_nil
/-- the slots and where the data begin behind one more -/
def insS (L : SL) (st : Nat) (v : Ver) : SL × Nat :=
  if st < v.sz + (4 + 4 * max L.length (nextL L + 1)) then (putL (packL L) (nextL L) (some (v, 512 - tot L - v.sz)), 512 - tot L - v.sz)
  else (putL L (nextL L) (some (v, st - v.sz)), st - v.sz)
theorem nextL_eq {L : SL} {q : Nat} (h1 : ∀ j, j < q → ∃ x, L[j]? = some (some x)) (h2 : q ≤ L.length) (h3 : q < L.length → L[q]? = some none) : nextL L = q := by
  rcases Nat.lt_trichotomy (nextL L) q with hl | he | hl
  · obtain ⟨x, hx⟩ := h1 _ hl
    rw [nextL_free (by omega)] at hx
    cases hx
  · exact he
  · obtain ⟨x, hx⟩ := nextL_full hl
    rw [h3 (by have := nextL_le L; omega)] at hx
    cases hx
theorem nextL_packL (L : SL) : nextL (packL L) = nextL L := by
  refine nextL_eq (fun j hj => ?_) (by rw [packL_len]; exact nextL_le L) (fun h => ?_)
  · obtain ⟨⟨v, f⟩, hx⟩ := nextL_full hj
    exact ⟨_, packL_some hx⟩
  · rw [packL_len] at h
    exact packL_none (nextL_free h)
theorem roomL_le {L : SL} {n : Nat} (h : (n : Int) ≤ roomL L) : 4 * max L.length (nextL L + 1) + tot L + n ≤ 478 := by unfold roomL at h; omega
theorem insert_has (P n c : Nat) (A : Option Addr) (v : Ver) (L : SL) (st : Nat) (w : World) (h : Hp w P L st) (hv : v.ok) (hn : v.d.length = n) (hs : Sl w w.heap.size 1 A n c (u8s v.d)) (hroom : (n : Int) ≤ roomL L) :
    Calls Try.prog 34 #[.pointer (some ⟨P, 0, none⟩), tupV v (.slice A n c)] w fun e w' => e = .returned (.tuple #[.int .i64 (nextL L), .int .i64 0]) ∧ Hp w' P (insS L st v).1 (insS L st v).2 ∧ Only P w w' := by
  obtain ⟨X, hp, hx⟩ := h
  have hok := hv.tuOk
  rw [hn] at hok
  have h1 := hv.r
  have h2 := hv.a
  have h3 := hv.b
  have h4 := hv.p
  have h5 := hv.s
  have h7 := hv.d
  have hrm := roomL_le hroom
  have hsz : v.sz = 30 + n := by unfold Ver.sz; omega
  have htop := hx.top
  have hall := hx.all
  have hsum := hx.sum
  by_cases hc : st < v.sz + (4 + 4 * max L.length (nextL L + 1))
  · have hpk := hx.pack (by omega)
    have hi := hpk.insert (v := v) (at_ := 512 - tot L - v.sz) (M := max L.length (nextL L + 1)) hv (by omega) (by rw [packL_len, nextL_packL]) (by omega)
    rw [nextL_packL] at hi
    refine (insert_pack P (nextL L) v.r v.a v.b v.p v.s n c (512 - tot L - v.sz) st _ _ A v.d X w hp (hx.pkOk (by omega)) hx.next hn hs hok (by omega) (by omega) (by omega) (by omega) (by omega) h4 h5 (by omega) (by rw [hx.room]; exact hroom) hx.bgN (by rw [hx.slN]; omega) (by rw [hx.su]; omega)).mono ?_
    rintro e w' ⟨rfl, hp', ho⟩
    rw [hx.slN] at hp' hi
    refine ⟨rfl, ⟨_, hp', ?_⟩, ho⟩
    unfold insS
    rw [if_pos hc]
    exact hi
  · have hi := hx.insert (v := v) (at_ := st - v.sz) (M := max L.length (nextL L + 1)) hv (by omega) rfl (by omega)
    refine (insert_ok P (nextL L) v.r v.a v.b v.p v.s n c (st - v.sz) _ _ A v.d X w hp hx.fine hx.next hn hs hok (by omega) (by omega) (by omega) (by omega) (by omega) h4 h5 (by omega) (by rw [hx.room]; exact hroom) (by rw [hx.bgN]; omega) (by rw [hx.slN]; omega) (by omega)).mono ?_
    rintro e w' ⟨rfl, hp', ho⟩
    rw [hx.slN] at hp'
    refine ⟨rfl, ⟨_, hp', ?_⟩, ho⟩
    unfold insS
    rw [if_neg hc]
    exact hi
theorem insert_has_full (P n c : Nat) (A : Option Addr) (v : Ver) (L : SL) (st : Nat) (w : World) (h : Hp w P L st) (hv : v.ok) (hn : v.d.length = n) (hs : Sl w w.heap.size 1 A n c (u8s v.d)) (hroom : roomL L < (n : Int)) :
    Calls Try.prog 34 #[.pointer (some ⟨P, 0, none⟩), tupV v (.slice A n c)] w fun e w' => e = .returned (.tuple #[.int .i64 0, .int .i64 12]) ∧ Below w.heap.size w w' := by
  obtain ⟨X, hp, hx⟩ := h
  have hok := hv.tuOk
  rw [hn] at hok
  exact insert_full P (nextL L) v.r v.a v.b n c _ _ A X w hp hx.fine hx.next hok hs.le hs.cap (by rw [hx.room]; exact hroom)
/-- Stamp where nothing is -/
theorem stamp_none (P : Nat) (L : SL) (st : Nat) (i : Int) (U : Nat) (p s : Int) (w : World) (h : Hp w P L st) (hn : atL L i = none) (hU : U ≤ 1099511627776) (hx : nxOk p s = true) :
    Calls Try.prog 38 #[.pointer (some ⟨P, 0, none⟩), .int .i64 i, .int .u64 U, .agg #[.int .i64 p, .int .i64 s]] w fun e w' => e = .returned (.int .i64 15) ∧ Below w.heap.size w w' := by
  have CX := Lib.hid (rightNext_any p s (w.alloc (.cells #[.int .i64 p, .int .i64 s] 30)))
  rw [hx] at CX
  have CA : Hid (∀ w0, Below w.heap.size w w0 → Calls Try.prog 71 #[.pointer (some ⟨P, 0, none⟩), .int .i64 i] w0 fun e w' => e = .returned (.slice none 0 0) ∧ ∃ m, w' = w0.drewN m) := Lib.hid fun w0 hb => at_none P L st i w0 (h.below hb h.lt) hn
  clear h hn hx
  go_enter Try.func38, Try.ntmps38
  go_wp2_with fail
  refine (rightNumber_yes U _ hU).mono ?_
  rintro e w1 ⟨rfl, rfl⟩
  go_wp2_with fail
  refine CX.out.mono ?_
  rintro e w2 ⟨rfl, hb2⟩
  have HB2 := Lib.hid (bel_trans (bel_alloc w (.cells #[.int .i64 p, .int .i64 s] 30)) hb2)
  clear hb2
  go_wp2_with fail
  refine (CA.out _ HB2.out).mono ?_
  rintro e w3 ⟨rfl, m, rfl⟩
  go_wp2_with fail
  go_ret
  exact ⟨rfl, HB2.out.os, HB2.out.tape, HB2.out.output, HB2.out.size, HB2.out.block⟩
theorem stamp_has (P : Nat) (L : SL) (st : Nat) (i : Int) (v : Ver) (f U P1 S1 : Nat) (p s : Int) (w : World) (h : Hp w P L st) (hn : atL L i = some (v, f)) (hU : U ≤ 1099511627776) (hx : nxOk p s = true) (hp : p + 1 = P1) (hs : s + 1 = S1) :
    Calls Try.prog 38 #[.pointer (some ⟨P, 0, none⟩), .int .i64 i, .int .u64 U, .agg #[.int .i64 p, .int .i64 s]] w fun e w' => e = .returned (.int .i64 0) ∧ Hp w' P (L.set i.toNat (some (v.stamped U P1 S1, f))) st ∧ Only P w w' := by
  obtain ⟨X, hpg, hX⟩ := h
  obtain ⟨j, rfl, hj⟩ := atL_some hn
  obtain ⟨P2, S2, e1, e2, h1, h2⟩ := nx_nat hx
  obtain rfl : P1 = P2 := by omega
  obtain rfl : S1 = S2 := by omega
  have hok := hX.okv j v f hj
  refine (stamp_ok P j f v.sz U P1 S1 p s X w hpg hX.fine (by rw [hX.slN]; exact hX.le hj) (hX.frS hj) (hX.szS hj) (by unfold Ver.sz; omega) hU hx hp hs h1 h2).mono ?_
  rintro e w' ⟨rfl, hpg', ho⟩
  refine ⟨rfl, ⟨_, hpg', ?_⟩, ho⟩
  refine hX.stamp hj ⟨hok.r, hok.a, hU, h1, h2, ?_, hok.d⟩
  show P1 = 0 ↔ S1 = 0
  unfold nxOk at hx
  simp only [Bool.and_eq_true, Bool.or_eq_true, decide_eq_true_eq, beq_iff_eq] at hx
  omega
/-- Free where nothing is -/
theorem free_of (A : Option Addr) (i : Int) (w : World) (h : Calls Try.prog 71 #[.pointer A, .int .i64 i] w fun e w' => e = .returned (.slice none 0 0) ∧ ∃ m, w' = w.drewN m) :
    Calls Try.prog 35 #[.pointer A, .int .i64 i] w fun e w' => e = .returned (.int .i64 15) ∧ ∃ m, w' = w.drewN m := by
  have H := Lib.hid h
  clear h
  go_enter Try.func35, Try.ntmps35
  go_wp2_with fail
  refine H.out.mono ?_
  rintro e w2 ⟨rfl, m, rfl⟩
  go_wp2_with fail
  go_ret
  exact ⟨rfl, m, rfl⟩
theorem free_nil (i : Int) (w : World) : Calls Try.prog 35 #[.pointer none, .int .i64 i] w fun e w' => e = .returned (.int .i64 15) ∧ ∃ m, w' = w.drewN m := by
  refine free_of none i w ?_
  by_cases hi : i < 0
  · exact (at_nilneg i w hi).mono fun e w' ⟨h1, h2⟩ => ⟨h1, 0, h2.symm⟩
  · exact (at_nil i w hi).mono fun e w' ⟨h1, h2⟩ => ⟨h1, 0, h2.symm⟩
theorem free_none (P : Nat) (L : SL) (st : Nat) (i : Int) (w : World) (h : Hp w P L st) (hn : atL L i = none) :
    Calls Try.prog 35 #[.pointer (some ⟨P, 0, none⟩), .int .i64 i] w fun e w' => e = .returned (.int .i64 15) ∧ ∃ m, w' = w.drewN m := free_of _ i w (at_none P L st i w h hn)
theorem free_has (P : Nat) (L : SL) (st : Nat) (i : Int) (v : Ver) (f : Nat) (w : World) (h : Hp w P L st) (hn : atL L i = some (v, f)) :
    Calls Try.prog 35 #[.pointer (some ⟨P, 0, none⟩), .int .i64 i] w fun e w' => e = .returned (.int .i64 0) ∧ ∃ k, IsTrim (L.set i.toNat none) k ∧ Hp w' P ((L.set i.toNat none).take k) st ∧ Only P w w' := by
  obtain ⟨X, hpg, hX⟩ := h
  obtain ⟨j, rfl, hj⟩ := atL_some hn
  obtain ⟨hvb, hf1, hf2⟩ := hX.ver j v f hj
  have htop := hX.top
  refine (free_pg P j f v.sz X w hpg hX.fine (by rw [hX.slN]; exact hX.le hj) (hX.frS hj) (hX.szS hj) (by unfold Ver.sz; omega) (by rw [hX.slN]; omega)).mono ?_
  rintro e w' ⟨rfl, k, hk, hall, hlast, hp', ho⟩
  rw [hX.slN] at hk hall
  show _ ∧ ∃ k, IsTrim (L.set j none) k ∧ Hp w' P ((L.set j none).take k) st ∧ Only P w w'
  have htr : IsTrim (L.set j none) k := by
    refine ⟨by rw [List.length_set]; exact hk, fun m h1 h2 => ?_, fun h0 => ?_⟩
    · rw [List.length_set] at h2
      obtain ⟨o, ho⟩ : ∃ o, (L.set j none)[m]? = some o := ⟨_, List.getElem?_eq_getElem (by rw [List.length_set]; exact h2)⟩
      have e := hX.freed_sz hj ho
      rw [hall m h1 h2] at e
      cases o with
      | none => exact ho
      | some x => simp [osz, Ver.sz] at e; omega
    · obtain ⟨o, ho⟩ : ∃ o, (L.set j none)[k - 1]? = some o := ⟨_, List.getElem?_eq_getElem (by rw [List.length_set]; omega)⟩
      have e := hX.freed_sz hj ho
      have := hlast h0
      cases o with
      | none => rw [e] at this; exact absurd rfl this
      | some x => exact ⟨x, ho⟩
  exact ⟨rfl, k, htr, ⟨_, hp', hX.free hj htr⟩, ho⟩
end Go.Proofs.Ytbpgjpopmohbmaa.Mem
