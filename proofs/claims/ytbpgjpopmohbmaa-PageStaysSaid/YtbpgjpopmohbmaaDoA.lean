/- The page and its reference side by side: one answer, one new state for both. -/
import Derived.Test.YtbpgjpopmohbmaaRfF
namespace Go.Proofs.Ytbpgjpopmohbmaa.Mem
open Go.RowKit Go.Proofs.Ytbpgjpopmohbmaa.Nums
set_option linter.unusedVariables false
set_option linter.unusedSimpArgs false
set_option maxRecDepth 100000
set_option maxHeartbeats 400000
theorem trim_ex : ∀ (n : Nat) (M : SL), M.length = n → ∃ k, IsTrim M k
  | 0, M, h => ⟨0, by omega, fun j h1 h2 => absurd h2 (by omega), fun h => absurd h (by omega)⟩
  | n + 1, M, h => by
    obtain ⟨o, ho⟩ : ∃ o, M[n]? = some o := ⟨_, List.getElem?_eq_getElem (by omega)⟩
    cases o with
    | some x => exact ⟨n + 1, by omega, fun j h1 h2 => absurd h2 (by omega), fun _ => ⟨x, ho⟩⟩
    | none =>
      obtain ⟨k, hk⟩ := trim_ex n (M.take n) (by rw [List.length_take]; omega)
      have hkl := hk.le
      rw [List.length_take] at hkl
      refine ⟨k, by omega, fun j h1 h2 => ?_, fun h0 => ?_⟩
      · by_cases hj : j = n
        · subst hj; exact ho
        · have := hk.free j h1 (by rw [List.length_take]; omega)
          rwa [List.getElem?_take, if_pos (by omega)] at this
      · obtain ⟨x, hx⟩ := hk.last h0
        rw [List.getElem?_take, if_pos (by omega)] at hx
        exact ⟨x, hx⟩
/-- what Stamp answers, and the slots behind it -/
def stampR (L : SL) (i : Int) (U : Nat) (p s : Int) : Int × SL :=
  if U ≤ 1099511627776 ∧ nxOk p s = true then (match atL L i with
    | none => (15, L)
    | some (v, f) => (0, L.set i.toNat (some (v.stamped U (p + 1).toNat (s + 1).toNat, f)))) else (3, L)
/-- .. Free's -/
def FreeTo (L : SL) (i : Int) (x : Int) (L' : SL) : Prop :=
  (atL L i = none ∧ x = 15 ∧ L' = L) ∨ (∃ v f k, atL L i = some (v, f) ∧ x = 0 ∧ IsTrim (L.set i.toNat none) k ∧ L' = (L.set i.toNat none).take k)
theorem free_ex (L : SL) (i : Int) : ∃ x L', FreeTo L i x L' := by
  cases h : atL L i with
  | none => exact ⟨15, L, .inl ⟨h, rfl, rfl⟩⟩
  | some y =>
    obtain ⟨k, hk⟩ := trim_ex _ (L.set i.toNat none) rfl
    exact ⟨0, _, .inr ⟨y.1, y.2, k, h, rfl, hk, rfl⟩⟩
def mkV (r a b : Nat) (p s : Int) (d : List UInt8) : Ver := ⟨r, a, b, (p + 1).toNat, (s + 1).toNat, d⟩
/-- .. Insert's -/
def insR (L : SL) (st : Nat) (r a b : Nat) (p s : Int) (d : List UInt8) : Int × Int × SL × Nat :=
  if tuOk r a b p s d.length = true then (if roomL L < (d.length : Int) then (0, 12, L, st) else ((nextL L : Int), 0, (insS L st (mkV r a b p s d)).1, (insS L st (mkV r a b p s d)).2)) else (0, 3, L, st)
theorem tuOk_nx {r a b : Nat} {p s : Int} {n : Nat} (h : tuOk r a b p s n = true) : r ≤ 1099511627776 ∧ a ≤ 1099511627776 ∧ b ≤ 1099511627776 ∧ nxOk p s = true ∧ n ≤ 200 := by
  unfold tuOk at h
  simp only [Bool.and_eq_true, decide_eq_true_eq] at h
  exact ⟨h.1.1.1.1, h.1.1.1.2, h.1.1.2, h.1.2, h.2⟩
theorem nx_to {p s : Int} (h : nxOk p s = true) : (((p + 1).toNat : Nat) : Int) - 1 = p ∧ (((s + 1).toNat : Nat) : Int) - 1 = s ∧ (p + 1).toNat ≤ 65536 ∧ (s + 1).toNat ≤ 65535 ∧ ((p + 1).toNat = 0 ↔ (s + 1).toNat = 0) := by
  unfold nxOk at h
  simp only [Bool.and_eq_true, Bool.or_eq_true, decide_eq_true_eq, beq_iff_eq] at h
  omega
theorem mkV_ok {r a b : Nat} {p s : Int} {d : List UInt8} (h : tuOk r a b p s d.length = true) : (mkV r a b p s d).ok ∧ ∀ u, tupV (mkV r a b p s d) u = .agg #[.int .u64 r, .int .u64 a, .int .u64 b, .int .i64 p, .int .i64 s, u] := by
  obtain ⟨h1, h2, h3, h4, h5⟩ := tuOk_nx h
  obtain ⟨k1, k2, k3, k4, k5⟩ := nx_to h4
  refine ⟨⟨h1, h2, h3, k3, k4, k5, h5⟩, fun u => ?_⟩
  unfold tupV mkV
  rw [k1, k2]
section
variable {w : World} {P R st c n c0 : Nat} {L : SL} {F : Nat → Prop} {E : List Ent} {A A0 : Option Addr}
theorem Hp.small (h : Hp w P L st) : L.length ≤ 127 ∧ st ≤ 512 ∧ ∀ (i : Nat) (v : Ver) (f : Nat), L[i]? = some (some (v, f)) → v.d.length ≤ 200 := by
  obtain ⟨X, _, hx⟩ := h
  have := hx.top
  have := hx.all
  exact ⟨by omega, hx.all, fun i v f hi => (hx.okv i v f hi).d⟩
theorem stampP (h : Hp w P L st) (i : Int) (U : Nat) (p s : Int) :
    Calls Try.prog 38 #[.pointer (some ⟨P, 0, none⟩), .int .i64 i, .int .u64 U, .agg #[.int .i64 p, .int .i64 s]] w fun e w' => e = .returned (.int .i64 (stampR L i U p s).1) ∧ Hp w' P (stampR L i U p s).2 st ∧ Only P w w' := by
  unfold stampR
  by_cases hg : U ≤ 1099511627776 ∧ nxOk p s = true
  · rw [if_pos hg]
    cases ha : atL L i with
    | none =>
      refine (stamp_none P L st i U p s w h ha hg.1 hg.2).mono ?_
      rintro e w' ⟨rfl, hb⟩
      exact ⟨rfl, h.below hb h.lt, Only.of_below hb⟩
    | some x =>
      obtain ⟨v, f⟩ := x
      obtain ⟨k1, k2, k3, k4, k5⟩ := nx_to hg.2
      exact stamp_has P L st i v f U _ _ p s w h ha hg.1 hg.2 (by omega) (by omega)
  · rw [if_neg hg]
    obtain ⟨X, hp, hx⟩ := h
    refine (stamp_form (some ⟨P, 0, none⟩) i U p s w P rfl hg).mono ?_
    rintro e w' ⟨rfl, hb⟩
    exact ⟨rfl, Hp.below ⟨X, hp, hx⟩ hb (Blk.lt hp.1), Only.of_below hb⟩
theorem stampF (h : RfA w F R E st A c) (hL : E.map Prod.fst = L) (i : Int) (U : Nat) (p s : Int) :
    Calls Try.prog 62 #[.pointer (some ⟨R, 0, none⟩), .int .i64 i, .int .u64 U, .agg #[.int .i64 p, .int .i64 s]] w fun e w' => e = .returned (.int .i64 (stampR L i U p s).1) ∧ (∃ E', E'.map Prod.fst = (stampR L i U p s).2 ∧ RfA w' F R E' st A c) ∧ Turn F w w' := by
  unfold stampR
  by_cases hg : U ≤ 1099511627776 ∧ nxOk p s = true
  · rw [if_pos hg]
    cases ha : atL L i with
    | none =>
      refine (rstamp_none h i U p s (by rw [hL]; exact ha) hg.1 hg.2).mono ?_
      rintro e w' ⟨rfl, hb⟩
      exact ⟨rfl, ⟨E, hL, h.below hb⟩, Turn.of_below hb⟩
    | some x =>
      obtain ⟨v, f⟩ := x
      obtain ⟨k1, k2, k3, k4, k5⟩ := nx_to hg.2
      obtain ⟨j, rfl, hj⟩ := atL_some ha
      rw [← hL, List.getElem?_map] at hj
      cases he : E[j]? with
      | none => rw [he] at hj; cases hj
      | some y =>
        obtain ⟨o, u⟩ := y
        rw [he] at hj
        injection hj with hj
        have hj' : o = some (v, f) := hj
        subst hj'
        refine (rstamp_some h j v f u U _ _ p s he hg.1 hg.2 (show p + 1 = ((p + 1).toNat : Int) by omega) (show s + 1 = ((s + 1).toNat : Int) by omega)).mono ?_
        rintro e w' ⟨rfl, hr, ht⟩
        refine ⟨rfl, ⟨_, ?_, hr⟩, ht⟩
        show _ = L.set j _
        rw [ents_map_set, hL]
  · rw [if_neg hg]
    refine (rstamp_form R i U p s w hg).mono ?_
    rintro e w' ⟨rfl, hb⟩
    exact ⟨rfl, ⟨E, hL, h.below hb⟩, Turn.of_below hb⟩
theorem freeP (h : Hp w P L st) (i x : Int) (L' : SL) (hf : FreeTo L i x L') :
    Calls Try.prog 35 #[.pointer (some ⟨P, 0, none⟩), .int .i64 i] w fun e w' => e = .returned (.int .i64 x) ∧ Hp w' P L' st ∧ Only P w w' := by
  rcases hf with ⟨h1, rfl, rfl⟩ | ⟨v, f, k, h1, rfl, h3, rfl⟩
  · refine (free_none P L' st i w h h1).mono ?_
    rintro e w' ⟨rfl, m, rfl⟩
    exact ⟨rfl, h.drewN m, (Only.refl P w).drewN m⟩
  · refine (free_has P L st i v f w h h1).mono ?_
    rintro e w' ⟨rfl, k', hk', hp, ho⟩
    obtain rfl := hk'.eq h3
    exact ⟨rfl, hp, ho⟩
theorem freeF (h : RfA w F R E st A c) (hL : E.map Prod.fst = L) (i x : Int) (L' : SL) (hf : FreeTo L i x L') :
    Calls Try.prog 63 #[.pointer (some ⟨R, 0, none⟩), .int .i64 i] w fun e w' => e = .returned (.int .i64 x) ∧ (∃ E', E'.map Prod.fst = L' ∧ RfA w' F R E' st A c) ∧ Turn F w w' := by
  rcases hf with ⟨h1, rfl, rfl⟩ | ⟨v, f, k, h1, rfl, h3, rfl⟩
  · refine (rfree_of _ i w (rget_none h i (by rw [hL]; exact h1))).mono ?_
    rintro e w' ⟨rfl, hb⟩
    exact ⟨rfl, ⟨E, hL, h.below hb⟩, Turn.of_below hb⟩
  · obtain ⟨j, rfl, hj⟩ := atL_some h1
    rw [← hL, List.getElem?_map] at hj
    cases he : E[j]? with
    | none => rw [he] at hj; cases hj
    | some y =>
      obtain ⟨o, u⟩ := y
      rw [he] at hj
      injection hj with hj
      have hj' : o = some (v, f) := hj
      subst hj'
      refine (rfree_some h j v f u he).mono ?_
      rintro e w' ⟨rfl, k', hk', hr, ht⟩
      rw [hL] at hk'
      have h3' : IsTrim (L.set j none) k := h3
      obtain rfl := hk'.eq h3'
      refine ⟨rfl, ⟨_, ?_, hr⟩, ht⟩
      show _ = (L.set j none).take k'
      rw [List.map_take, ents_map_set, hL]
theorem insP (h : Hp w P L st) (r a b : Nat) (p s : Int) (d : List UInt8) (hn : d.length = n) (hs : Sl w w.heap.size 1 A0 n c0 (u8s d)) :
    Calls Try.prog 34 #[.pointer (some ⟨P, 0, none⟩), .agg #[.int .u64 r, .int .u64 a, .int .u64 b, .int .i64 p, .int .i64 s, .slice A0 n c0]] w fun e w' => e = .returned (.tuple #[.int .i64 (insR L st r a b p s d).1, .int .i64 (insR L st r a b p s d).2.1]) ∧ Hp w' P (insR L st r a b p s d).2.2.1 (insR L st r a b p s d).2.2.2 ∧ Only P w w' := by
  subst hn
  unfold insR
  by_cases hg : tuOk r a b p s d.length = true
  · rw [if_pos hg]
    obtain ⟨hok, htv⟩ := mkV_ok hg
    rw [← htv]
    by_cases hr : roomL L < (d.length : Int)
    · rw [if_pos hr]
      refine (insert_has_full P _ c0 A0 (mkV r a b p s d) L st w h hok rfl hs hr).mono ?_
      rintro e w' ⟨rfl, hb⟩
      exact ⟨rfl, h.below hb h.lt, Only.of_below hb⟩
    · rw [if_neg hr]
      exact insert_has P _ c0 A0 (mkV r a b p s d) L st w h hok rfl hs (by omega)
  · rw [if_neg hg]
    refine (insert_form P r a b _ c0 p s A0 w (by simpa using hg)).mono ?_
    rintro e w' ⟨rfl, hb⟩
    exact ⟨rfl, h.below hb h.lt, Only.of_below hb⟩
theorem insF (h : RfA w F R E st A c) (hL : E.map Prod.fst = L) (hl : L.length ≤ 127) (hst : st ≤ 512) (hvs : ∀ (i : Nat) (v : Ver) (f : Nat), L[i]? = some (some (v, f)) → v.d.length ≤ 200) (r a b : Nat) (p s : Int) (d : List UInt8) (hn : d.length = n) (hs : Sl w w.heap.size 1 A0 n c0 (u8s d)) :
    Calls Try.prog 64 #[.pointer (some ⟨R, 0, none⟩), .agg #[.int .u64 r, .int .u64 a, .int .u64 b, .int .i64 p, .int .i64 s, .slice A0 n c0]] w fun e w' => e = .returned (.tuple #[.int .i64 (insR L st r a b p s d).1, .int .i64 (insR L st r a b p s d).2.1]) ∧ (∃ E' A' c', E'.map Prod.fst = (insR L st r a b p s d).2.2.1 ∧ RfA w' (fun g => F g ∨ (w.heap.size ≤ g ∧ g < w'.heap.size)) R E' (insR L st r a b p s d).2.2.2 A' c') ∧ Turn F w w' := by
  subst hn hL
  rw [List.length_map] at hl
  have keep : ∀ {w'}, Below w.heap.size w w' → RfA w' (fun g => F g ∨ (w.heap.size ≤ g ∧ g < w'.heap.size)) R E st A c := fun hb => (h.below hb).more (fun g hg => .inl hg) (fun g hg => hg.elim (fun k => Nat.lt_of_lt_of_le (h.lt g k) hb.size) (fun k => k.2))
  unfold insR
  by_cases hg : tuOk r a b p s d.length = true
  · rw [if_pos hg]
    obtain ⟨hok, htv⟩ := mkV_ok hg
    rw [← htv]
    by_cases hr : roomL (E.map Prod.fst) < (d.length : Int)
    · rw [if_pos hr]
      refine (rins_full h hl hvs (mkV r a b p s d) A0 c0 hok hs hr).mono ?_
      rintro e w' ⟨rfl, hb⟩
      exact ⟨rfl, ⟨E, A, c, rfl, keep hb⟩, Turn.of_below hb⟩
    · rw [if_neg hr]
      exact rins_ok h hl hst hvs (mkV r a b p s d) A0 c0 hok hs hr
  · rw [if_neg hg]
    refine (rins_form R r a b _ c0 p s A0 w (by simpa using hg)).mono ?_
    rintro e w' ⟨rfl, hb⟩
    exact ⟨rfl, ⟨E, A, c, rfl, keep hb⟩, Turn.of_below hb⟩
end
/-- the page at P and its reference at R, all their blocks newer than w's -/
def Duo (w wr : World) (P R : Nat) (L : SL) (st : Nat) : Prop :=
  Hp wr P L st ∧ (∃ F E A c, E.map Prod.fst = L ∧ RfA wr F R E st A c ∧ ¬ F P ∧ ∀ g, F g → w.heap.size ≤ g) ∧ w.heap.size ≤ P ∧ Below w.heap.size w wr
section
variable {w wr w' : World} {P R st : Nat} {L : SL}
theorem Duo.below (h : Duo w wr P R L st) (hb : Below wr.heap.size wr w') : Duo w w' P R L st := by
  obtain ⟨h1, ⟨F, E, A, c, h2, h3, h4, h5⟩, h6, h7⟩ := h
  exact ⟨h1.below hb h1.lt, ⟨F, E, A, c, h2, h3.below hb, h4, h5⟩, h6, h7.trans (hb.mono h7.size)⟩
theorem Duo.drewN (h : Duo w wr P R L st) (m : Nat) : Duo w (wr.drewN m) P R L st := h.below ⟨rfl, rfl, rfl, Nat.le_refl _, fun _ _ => rfl⟩
theorem Duo.drew (h : Duo w wr P R L st) : Duo w wr.drew P R L st := h.below ⟨rfl, rfl, rfl, Nat.le_refl _, fun _ _ => rfl⟩
/-- a block of bytes turned that is neither's -/
theorem Duo.other (h : Duo w wr P R L st) {g : Nat} (ho : Only g wr w') (hg : w.heap.size ≤ g) (hP : g ≠ P) (hF : ∀ F E A c, RfA wr F R E st A c → ¬ F P → (∀ g, F g → w.heap.size ≤ g) → ∃ F', RfA wr F' R E st A c ∧ ¬ F' P ∧ (∀ g, F' g → w.heap.size ≤ g) ∧ ¬ F' g) : Duo w w' P R L st := by
  obtain ⟨h1, ⟨F, E, A, c, h2, h3, h4, h5⟩, h6, h7⟩ := h
  obtain ⟨F', k1, k2, k3, k4⟩ := hF F E A c h3 h4 h5
  exact ⟨h1.only ho (Ne.symm hP), ⟨F', E, A, c, h2, k1.only ho k4, k2, k3⟩, h6, h7.trans (ho.below h7.size hg)⟩
end
end Go.Proofs.Ytbpgjpopmohbmaa.Mem
