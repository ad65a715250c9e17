/- The page's calls, told of slots and versions. -/
import Derived.Test.YtbpgjpopmohbmaaHasC
import Derived.Test.YtbpgjpopmohbmaaPageO
import Derived.Test.YtbpgjpopmohbmaaPageH
namespace Go.Proofs.Ytbpgjpopmohbmaa.Mem
open Go.RowKit Go.Proofs.Ytbpgjpopmohbmaa.Nums
set_option linter.unusedVariables false
set_option linter.unusedSimpArgs false
set_option maxRecDepth 100000
set_option maxHeartbeats 1000000
attribute [local go_sem] nil_nil some_nil
/-- block P is the page of these slots -/
def Hp (w : World) (P : Nat) (L : SL) (st : Nat) : Prop := ∃ X, Pg w P X ∧ Has X L st
section
variable {w w' : World} {P : Nat} {L : SL} {st : Nat}
theorem Hp.lt (h : Hp w P L st) : P < w.heap.size := by obtain ⟨X, hp, _⟩ := h; exact Blk.lt hp.1
theorem Hp.keep (h : Hp w P L st) (hk : w'.heap[P]? = w.heap[P]?) : Hp w' P L st := by obtain ⟨X, hp, hx⟩ := h; exact ⟨X, ⟨hk.trans hp.1, hp.2⟩, hx⟩
theorem Hp.below {B : Nat} (h : Hp w P L st) (hb : Below B w w') (hP : P < B) : Hp w' P L st := h.keep (hb.block P hP)
theorem Hp.drewN (h : Hp w P L st) (n : Nat) : Hp (w.drewN n) P L st := h
theorem Hp.only {g : Nat} (h : Hp w P L st) (ho : Only g w w') (hne : P ≠ g) : Hp w' P L st := h.keep (ho.block P h.lt hne)
end
/-- the tuple of a version, its Data's slice v -/
def tupV (v : Ver) (u : Value) : Value := .agg #[.int .u64 v.r, .int .u64 v.a, .int .u64 v.b, .int .i64 ((v.p : Int) - 1), .int .i64 ((v.s : Int) - 1), u]
def zeroT : Value := .agg #[.int .u64 0, .int .u64 0, .int .u64 0, .int .i64 0, .int .i64 0, .slice none 0 0]
theorem Ver.ok.tuOk {v : Ver} (h : v.ok) : tuOk v.r v.a v.b ((v.p : Int) - 1) ((v.s : Int) - 1) v.d.length = true := by
  have h1 := h.r
  have h2 := h.a
  have h3 := h.b
  have h4 := h.p
  have h5 := h.s
  have h6 := h.ps
  have h7 := h.d
  unfold Mem.tuOk nxOk
  simp only [Bool.and_eq_true, Bool.or_eq_true, decide_eq_true_eq, beq_iff_eq]
  refine ⟨⟨⟨⟨h1, h2⟩, h3⟩, ?_⟩, h7⟩
  by_cases h0 : v.p = 0
  · left; have := h6.1 h0; omega
  · right; have : v.s ≠ 0 := fun e => h0 (h6.2 e); omega
theorem new_has (w : World) : Calls Try.prog 15 #[] w fun e w' => e = .returned (.pointer (some ⟨w.heap.size, 0, none⟩)) ∧ Hp w' w.heap.size [] 512 ∧ Below w.heap.size w w' := by
  refine (new_pg w).mono ?_
  rintro e w' ⟨rfl, hp, hb⟩
  refine ⟨rfl, ⟨X0, hp, ?_⟩, hb⟩
  refine ⟨x0_len, by kernel_rfl, by kernel_rfl, by simp, by omega, by simp [tot], by simp, by simp, by simp, fun i h1 h2 _ => ?_, by simp⟩
  unfold X0
  simp at h1
  rw [lay_other (by rw [nb_len, List.length_replicate]; omega) (by rw [nb_len]; omega), List.getElem?_replicate, if_pos h2]
theorem slots_has (P : Nat) (L : SL) (st : Nat) (w : World) (h : Hp w P L st) : Calls Try.prog 25 #[.pointer (some ⟨P, 0, none⟩)] w fun e w' => e = .returned (.int .i64 L.length) ∧ w = w' := by
  obtain ⟨X, hp, hx⟩ := h
  have := slots_pg P X w hp
  have e : get2 X 0 = L.length := hx.slN
  rwa [e] at this
theorem room_has (P : Nat) (L : SL) (st : Nat) (w : World) (h : Hp w P L st) : Calls Try.prog 21 #[.pointer (some ⟨P, 0, none⟩)] w fun e w' => e = .returned (.int .i64 (roomL L)) ∧ ∃ m, w' = w.drewN m := by
  obtain ⟨X, hp, hx⟩ := h
  have := room_q P _ X w hp hx.fine hx.next
  rwa [hx.room] at this
/-- how many slots aren't free -/
def usedL (L : SL) : Nat := (L.filter (·.isSome)).length
theorem usedL_snoc (L : SL) (o : Option (Ver × Nat)) : usedL (L ++ [o]) = usedL L + (if o.isSome then 1 else 0) := by
  unfold usedL
  rw [List.filter_append, List.length_append]
  cases o <;> rfl
theorem Has.us {X : List UInt8} {L : SL} {st : Nat} (h : Has X L st) : ∀ k, k ≤ L.length → usN X k = usedL (L.take k)
  | 0, _ => by simp [usN, usedL]
  | k + 1, hk => by
    obtain ⟨o, ho⟩ : ∃ o, L[k]? = some o := ⟨_, List.getElem?_eq_getElem (by omega)⟩
    have hz := h.szS ho
    have e := h.us k (by omega)
    rw [take_succ_of ho, usedL_snoc]
    unfold usN
    rw [hz, e]
    cases o with
    | none => simp [osz]
    | some x => simp [osz, Ver.sz]
theorem used_has (P : Nat) (L : SL) (st : Nat) (w : World) (h : Hp w P L st) : Calls Try.prog 23 #[.pointer (some ⟨P, 0, none⟩)] w fun e w' => e = .returned (.int .i64 (usedL L)) ∧ ∃ m, w' = w.drewN m := by
  obtain ⟨X, hp, hx⟩ := h
  have := used_pg P X w hp hx.fine
  rwa [hx.slN, hx.us _ (Nat.le_refl _), List.take_length] at this
/-- what lies in a slot -/
def atL (L : SL) (i : Int) : Option (Ver × Nat) := if i < 0 then none else (L[i.toNat]?).join
theorem atL_some {L : SL} {i : Int} {x : Ver × Nat} (h : atL L i = some x) : ∃ s : Nat, i = s ∧ L[s]? = some (some x) := by
  unfold atL at h
  split at h
  · cases h
  · refine ⟨i.toNat, by omega, ?_⟩
    cases hs : L[i.toNat]? with
    | none => rw [hs] at h; cases h
    | some o => rw [hs] at h; simp at h; rw [h]
theorem atL_none {L : SL} {i : Int} (h : atL L i = none) : i < 0 ∨ (L.length : Int) ≤ i ∨ ∃ s : Nat, i = s ∧ L[s]? = some none := by
  unfold atL at h
  split at h
  · left; assumption
  · right
    cases hs : L[i.toNat]? with
    | none =>
      left
      have := List.getElem?_eq_none_iff.1 hs
      omega
    | some o =>
      right
      rw [hs] at h
      simp at h
      exact ⟨i.toNat, by omega, by rw [hs, h]⟩
theorem at_none (P : Nat) (L : SL) (st : Nat) (i : Int) (w : World) (h : Hp w P L st) (hn : atL L i = none) :
    Calls Try.prog 71 #[.pointer (some ⟨P, 0, none⟩), .int .i64 i] w fun e w' => e = .returned (.slice none 0 0) ∧ ∃ m, w' = w.drewN m := by
  obtain ⟨X, hp, hx⟩ := h
  by_cases hi : i < 0
  · exact (at_neg P i w hi).mono fun e w' ⟨h1, h2⟩ => ⟨h1, 0, h2.symm⟩
  rcases atL_none hn with h | h | ⟨s, rfl, hs⟩
  · exact absurd h hi
  · exact (at_over P X i w hp hi (by have := hx.slN; unfold slN at this; omega)).mono fun e w' ⟨h1, h2⟩ => ⟨h1, 0, h2.symm⟩
  · have h := at_pg P s X w hp hx.fine (by rw [hx.slN]; exact hx.le hs)
    rw [atV_free (by rw [hx.szS hs]; rfl)] at h
    exact h
theorem get_has_none (P : Nat) (L : SL) (st : Nat) (i : Int) (w : World) (h : Hp w P L st) (hn : atL L i = none) :
    Calls Try.prog 26 #[.pointer (some ⟨P, 0, none⟩), .int .i64 i] w fun e w' => e = .returned (.tuple #[zeroT, .bool false]) ∧ Below w.heap.size w w' :=
  get_none (some ⟨P, 0, none⟩) i w fun w0 hb => at_none P L st i w0 (h.below hb h.lt) hn
theorem get_has_some (P : Nat) (L : SL) (st : Nat) (i : Int) (v : Ver) (f : Nat) (w : World) (h : Hp w P L st) (hn : atL L i = some (v, f)) :
    Calls Try.prog 26 #[.pointer (some ⟨P, 0, none⟩), .int .i64 i] w fun e w' => ∃ u, e = .returned (.tuple #[tupV v u, .bool true]) ∧ OwnB w' w.heap.size u v.d.length (u8s v.d) ∧ Below w.heap.size w w' := by
  obtain ⟨X, hp, hx⟩ := h
  obtain ⟨s, rfl, hs⟩ := atL_some hn
  obtain ⟨hvb, hf1, hf2⟩ := hx.ver s v f hs
  have hok := hx.okv s v f hs
  obtain ⟨e0, hpre⟩ := split_of hvb (by rw [hx.len]; omega)
  have hy := getN_ver (X.take f) (X.drop (f + v.sz)) v.d v.r v.a v.b v.p v.s f hpre (by have := hok.r; omega) (by have := hok.a; omega) (by have := hok.b; omega) hok.p hok.s
  have e1 : X.take f ++ (verL v.r v.a v.b v.p v.s v.d ++ X.drop (f + v.sz)) = X := e0.symm
  rw [e1] at hy
  obtain ⟨y0, y1, y2, y3, y4, y5⟩ := hy
  refine (get_some P s f v.sz X w hp hx.fine (by rw [hx.slN]; exact hx.le hs) (hx.frS hs) (hx.szS hs) (by unfold Ver.sz; omega)).mono ?_
  rintro e w' ⟨u, rfl, ho, hb⟩
  refine ⟨u, ?_, ?_, hb⟩
  · unfold tuV tupV
    rw [y0, y1, y2, y3, y4]
  · have e2 : v.sz - 30 = v.d.length := by unfold Ver.sz; omega
    rw [e2, y5] at ho
    exact ho
end Go.Proofs.Ytbpgjpopmohbmaa.Mem
