/- BookFirst: who is first, told of lists. -/
import Derived.Test.YtnpmjljpaaaljaaBookR
import Derived.Test.YtnpmjljpaaaljaaBookM
namespace Go.Proofs.Ytnpmjljpaaaljaa.Bok
open Go.ChangeMaps Go.MapKept Go.RowKit Go.Proofs.Ytnpmjljpaaaljaa.Nums Go.Proofs.Ytnpmjljpaaaljaa.Mem Go.Proofs.Ytnpmjljpaaaljaa.Clg
set_option linter.unusedVariables false
set_option linter.unusedSimpArgs false
set_option maxRecDepth 100000
set_option maxHeartbeats 1000000
theorem found_x {S : List Nat} {own x : Nat} : foundB x (runX 1 S own) = true ↔ stOf 1 S x = 1 ∧ x ≠ own := by
  unfold foundB runX
  rw [List.contains_iff_mem, List.mem_filter, st_runs]
  simp
/-- the i-th snapshot of those that run -/
structure SnF (s : Sn) (i : Nat) : Prop where
  own : s.own = i + 2
  xmax : s.xmax = i + 3
  run : ∀ a, foundB a s.run = true ↔ 2 ≤ a ∧ a < i + 2
/-- 1 is committed; of the k behind it those from i on run -/
structure StF (S : List Nat) (k i : Nat) : Prop where
  len : S.length = 1 + k
  one : stOf 1 S 1 = 2
  mid : ∀ a, 2 ≤ a → a < 2 + k → stOf 1 S a = 1 ∨ stOf 1 S a = 3
  top : ∀ a, i + 2 ≤ a → a < 2 + k → stOf 1 S a = 1
theorem st_zero (S : List Nat) : stOf 1 S 0 = 0 := st_out (.inl (by omega))
theorem stF_new {S : List Nat} {k : Nat} (h : StF S k 0) : StF (S ++ [1]) (k + 1) 0 := by
  refine ⟨by rw [List.length_append, h.len]; simp; omega, ?_, fun a h1 h2 => ?_, fun a h1 h2 => ?_⟩
  · rw [st_snoc, if_neg (by rw [h.len]; omega)]; exact h.one
  · rw [st_snoc]
    split
    · exact .inl rfl
    · rename_i hne; exact h.mid a h1 (by rw [h.len] at hne; omega)
  · rw [st_snoc]
    split
    · rfl
    · rename_i hne; exact h.top a h1 (by rw [h.len] at hne; omega)
theorem snF_take {S : List Nat} {k : Nat} (h : StF S (k + 1) 0) (A : Option Addr) (c : Nat) : SnF (snOf S (k + 2) A c) k := by
  refine ⟨rfl, by show 1 + S.length = _; rw [h.len]; omega, fun a => ?_⟩
  show foundB a (runX 1 S (k + 2)) = true ↔ _
  rw [found_x]
  constructor
  · rintro ⟨h1, h2⟩
    have := st_in (f := 1) (S := S) (x := a) (by omega)
    rw [h.len] at this
    have : a ≠ 1 := fun e => by rw [e, h.one] at h1; omega
    omega
  · rintro ⟨h1, h2⟩
    exact ⟨h.top a (by omega) (by omega), by omega⟩
theorem stF_end {S : List Nat} {k i : Nat} (h : StF S k i) (hi : i < k) {b : Bool} : StF (if b then endS 1 S (i + 2) 3 else S) k (i + 1) := by
  cases b with
  | false => exact ⟨h.len, h.one, h.mid, fun a h1 h2 => h.top a (by omega) h2⟩
  | true =>
    have hr : stOf 1 S (i + 2) = 1 := h.top (i + 2) (by omega) (by omega)
    have he : endS 1 S (i + 2) 3 = S.set (i + 2 - 1) 3 := by unfold endS; rw [if_pos hr]
    have key : ∀ y, stOf 1 (endS 1 S (i + 2) 3) y = if y = i + 2 then 3 else stOf 1 S y := fun y => by rw [he, st_set (by omega)]
    refine ⟨by show (endS 1 S (i + 2) 3).length = _; rw [endS_len]; exact h.len, ?_, fun a h1 h2 => ?_, fun a h1 h2 => ?_⟩
    · show stOf 1 (endS 1 S (i + 2) 3) 1 = 2
      rw [key, if_neg (by omega)]; exact h.one
    · show stOf 1 (endS 1 S (i + 2) 3) a = 1 ∨ stOf 1 (endS 1 S (i + 2) 3) a = 3
      rw [key]
      split
      · exact .inr rfl
      · exact h.mid a h1 h2
    · show stOf 1 (endS 1 S (i + 2) 3) a = 1
      rw [key, if_neg (by omega)]
      exact h.top a (by omega) h2
theorem end_other {S : List Nat} {k i a : Nat} (h : StF S k i) (hi : i < k) {b : Bool} : stOf 1 (if b then endS 1 S (i + 2) 3 else S) a = if b = true ∧ a = i + 2 then 3 else stOf 1 S a := by
  cases b with
  | false => simp
  | true =>
    have hr : stOf 1 S (i + 2) = 1 := h.top (i + 2) (by omega) (by omega)
    have he : endS 1 S (i + 2) 3 = S.set (i + 2 - 1) 3 := by unfold endS; rw [if_pos hr]
    show stOf 1 (endS 1 S (i + 2) 3) a = _
    rw [he, st_set (by omega)]
    simp
theorem name_sT : nameB sT = true := name_yes (by decide) (by decide) (fun j hj => by
  obtain rfl : j = 0 := by have : sT.size = 1 := rfl; omega
  rw [ok_at (by decide)]
  decide)
/-- who makes: the tables of those that were first -/
structure CI (ts : List Tb) (S : List Nat) (i : Nat) (first : Bool) : Prop where
  all : ∀ t ∈ ts, t.e.nm = sT ∧ t.e.b = 0 ∧ 2 ≤ t.e.a ∧ t.e.a < i + 2
  yes : first = true → ∀ t ∈ ts, stOf 1 S t.e.a = 3
  no : first = false → ∃ t ∈ ts, stOf 1 S t.e.a = 1
  len : ts.length ≤ i
section
variable {ts : List Tb} {S : List Nat} {i k : Nat} {first : Bool} {s : Sn}
theorem CI.cf (h : CI ts S i first) (hs : SnF s i) {t : Tb} (ht : t ∈ ts) : nmB 1 S s sT t.e = false ∧ cfB 1 S s sT t.e = (stOf 1 S t.e.a != 3) := by
  obtain ⟨h1, h2, h3, h4⟩ := h.all t ht
  constructor
  · unfold nmB namedB
    have : visS 1 S s t.e.a t.e.b = false := by
      unfold visS visB seesB
      rw [if_neg (by rw [hs.own]; omega), if_neg (by rw [hs.xmax]; omega), if_pos ((hs.run _).2 ⟨h3, h4⟩)]
      rfl
    rw [this, Bool.and_false]
  · unfold cfB aliveB dropB
    rw [h1, h2, st_zero]
    simp
theorem CI.ct (h : CI ts S i first) (hs : SnF s i) (hi : i ≤ 9) : ctE 1 S s sT ts [] = if first = true then 0 else 11 := by
  have e : ens ts [] = ts.map Tb.e := by simp [ens]
  unfold ctE
  rw [if_neg (by rw [name_sT]; simp), e]
  have hno : (ts.map Tb.e).any (nmB 1 S s sT) = false := by
    rw [List.any_eq_false]
    intro x hx
    obtain ⟨t, ht, rfl⟩ := List.mem_map.1 hx
    rw [(h.cf hs ht).1]; simp
  have ht : takE 1 S s sT (ts.map Tb.e) = if (ts.map Tb.e).any (cfB 1 S s sT) = true then 11 else 0 := by unfold takE; rw [if_neg (by rw [hno]; simp)]
  cases hf : first with
  | true =>
    have hc : (ts.map Tb.e).any (cfB 1 S s sT) = false := by
      rw [List.any_eq_false]
      intro x hx
      obtain ⟨t, ht, rfl⟩ := List.mem_map.1 hx
      rw [(h.cf hs ht).2, h.yes hf t ht]; simp
    rw [ht, hc]
    simp
    have := h.len
    omega
  | false =>
    have hc : (ts.map Tb.e).any (cfB 1 S s sT) = true := by
      obtain ⟨t, ht, h1⟩ := h.no hf
      rw [List.any_eq_true]
      exact ⟨t.e, List.mem_map.2 ⟨t, ht, rfl⟩, by rw [(h.cf hs ht).2, h1]; rfl⟩
    rw [ht, hc]
    simp
theorem CI.made (h : CI ts S i true) (hS : StF S k i) (hi : i < k) (b : Bool) {g l d c : Nat} : CI (ts ++ [⟨⟨g, l, sT, i + 2, 0⟩, d, c⟩]) (if b then endS 1 S (i + 2) 3 else S) (i + 1) b := by
  refine ⟨fun t ht => ?_, fun hb t ht => ?_, fun hb => ?_, by rw [List.length_append]; have := h.len; simp; omega⟩
  · rw [List.mem_append, List.mem_singleton] at ht
    rcases ht with ht | rfl
    · obtain ⟨h1, h2, h3, h4⟩ := h.all t ht; exact ⟨h1, h2, h3, by omega⟩
    · exact ⟨rfl, rfl, by show 2 ≤ i + 2; omega, by show i + 2 < i + 1 + 2; omega⟩
  · rw [end_other hS hi]
    rw [List.mem_append, List.mem_singleton] at ht
    rcases ht with ht | rfl
    · split
      · rfl
      · exact h.yes rfl t ht
    · rw [if_pos ⟨hb, rfl⟩]
  · refine ⟨_, List.mem_append.2 (.inr (List.mem_singleton.2 rfl)), ?_⟩
    rw [end_other hS hi, if_neg (by rw [hb]; simp)]
    exact hS.top (i + 2) (by omega) (by omega)
theorem CI.told (h : CI ts S i false) : CI ts S (i + 1) false := ⟨fun t ht => by obtain ⟨h1, h2, h3, h4⟩ := h.all t ht; exact ⟨h1, h2, h3, by omega⟩, (fun e => by cases e), h.no, by have := h.len; omega⟩
theorem CI.nil (S : List Nat) : CI [] S 0 true := ⟨(fun t ht => by cases ht), (fun _ t ht => by cases ht), (fun e => by cases e), Nat.le_refl _⟩
/-- who drops: the one table, and who dropped it -/
structure DI (b : Nat) (S : List Nat) (i : Nat) (first : Bool) : Prop where
  yes : first = true → b = 0 ∨ (2 ≤ b ∧ b < i + 2 ∧ stOf 1 S b = 3)
  no : first = false → 2 ≤ b ∧ b < i + 2 ∧ stOf 1 S b = 1
variable {b g d c : Nat}
theorem DI.vis (h : DI b S i first) (hS : StF S k i) (hs : SnF s i) : visS 1 S s 1 b = true := by
  have h1 : seesB 1 S s.own s.xmax s.run 1 = true := by
    unfold seesB
    rw [if_neg (by rw [hs.own]; omega), if_neg (by rw [hs.xmax]; omega), if_neg (by rw [hs.run]; omega), hS.one]
    rfl
  unfold visS visB
  rw [h1, Bool.true_and]
  have key : 2 ≤ b → b < i + 2 → seesB 1 S s.own s.xmax s.run b = false := fun h2 h3 => by
    unfold seesB
    rw [if_neg (by rw [hs.own]; omega), if_neg (by rw [hs.xmax]; omega), if_pos ((hs.run b).2 ⟨h2, h3⟩)]
  cases hf : first with
  | true =>
    rcases h.yes hf with rfl | ⟨h2, h3, _⟩
    · rfl
    · rw [key h2 h3]; simp
  | false => obtain ⟨h2, h3, _⟩ := h.no hf; rw [key h2 h3]; simp
theorem DI.fnd (h : DI b S i first) (hS : StF S k i) (hs : SnF s i) : fnd 1 S s sT [⟨⟨g, 1, sT, 1, b⟩, d, c⟩] = some ⟨⟨g, 1, sT, 1, b⟩, d, c⟩ :=
  fnd_at (k := 0) rfl (fun x hx => by simp at hx) (by unfold nmB namedB; rw [h.vis hS hs]; simp)
theorem DI.free (h : DI b S i first) (hS : StF S k i) (hs : SnF s i) : frB 1 S s ⟨g, 1, sT, 1, b⟩ = first := by
  unfold frB freeE
  have hv := h.vis hS hs
  unfold visS at hv
  cases hf : first with
  | true =>
    rw [if_neg (by
      rcases h.yes hf with rfl | ⟨_, _, h4⟩
      · simp
      · intro hh; exact hh.2.2 h4), if_pos hv]
    rfl
  | false =>
    obtain ⟨h2, h3, h4⟩ := h.no hf
    rw [if_pos ⟨by show b ≠ 0; omega, by rw [hs.own]; show b ≠ i + 2; omega, by show stOf 1 S b ≠ 3; omega⟩]
    rfl
theorem DI.made (hS : StF S k i) (hi : i < k) (q : Bool) : DI (i + 2) (if q then endS 1 S (i + 2) 3 else S) (i + 1) q := by
  refine ⟨fun hq => .inr ⟨by omega, by omega, ?_⟩, fun hq => ⟨by omega, by omega, ?_⟩⟩
  · rw [end_other hS hi, if_pos ⟨hq, rfl⟩]
  · rw [end_other hS hi, if_neg (by rw [hq]; simp)]
    exact hS.top (i + 2) (by omega) (by omega)
theorem DI.told (h : DI b S i false) : DI b S (i + 1) false := ⟨(fun e => by cases e), fun _ => by obtain ⟨h2, h3, h4⟩ := h.no rfl; exact ⟨h2, by omega, h4⟩⟩
theorem dropped_one (own : Nat) : stTs own [g] [⟨⟨g, 1, sT, 1, b⟩, d, c⟩] = [⟨⟨g, 1, sT, 1, own⟩, d, c⟩] := by
  show [stT own g ⟨⟨g, 1, sT, 1, b⟩, d, c⟩] = _
  unfold stT stE
  rw [if_pos rfl]
end
end Go.Proofs.Ytnpmjljpaaaljaa.Bok
