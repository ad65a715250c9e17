/- A region that draws its order, by one invariant: each operation is walked once, whatever came ahead of it. -/
import Derived.Test.YtnpmjljpaaaljaaBase
namespace Go.Proofs.Ytnpmjljpaaaljaa.Reg
open Go
set_option linter.unusedVariables false
set_option linter.unusedSimpArgs false
def upd (d : Nat → Bool) (i : Nat) : Nat → Bool := fun j => j == i || d j
def updv (v : Nat → Value) (i : Nat) (x : Value) : Nat → Value := fun j => if j = i then x else v j
theorem upd_self (d : Nat → Bool) (i : Nat) : upd d i i = true := by simp [upd]
theorem upd_ne (d : Nat → Bool) {i j : Nat} (h : j ≠ i) : upd d i j = d j := by simp [upd, h]
theorem updv_self (v : Nat → Value) (i : Nat) (x : Value) : updv v i x i = x := by simp [updv]
theorem updv_ne (v : Nat → Value) {i j : Nat} (x : Value) (h : j ≠ i) : updv v i x j = v j := by simp [updv, h]
def dstOf (ops : Array Oper) (j : Nat) : Option Tmp := (ops[j]?).bind (·.dst)
/-- each operation waits for earlier ones alone, and writes a slot of its own -/
def okB (ops : Array Oper) (n : Nat) : Bool := (List.range ops.size).all fun i => match ops[i]? with
  | none => true
  | some o => o.after.toList.all (fun e => !Region.binds .any e || decide (e.on < i)) && (match o.dst with
    | none => true
    | some t => decide (t < n) && (List.range ops.size).all fun j => j == i || decide (dstOf ops j ≠ some t))
section
variable {P : Program} {ops : Array Oper} {Q : Exit → Act → World → Prop} {md : Region.Mode}
theorem filter_less {p q : Nat → Bool} (hpq : ∀ j, q j = true → p j = true) {i : Nat} (hp : p i = true) (hq : q i = false) : ∀ {l : List Nat}, i ∈ l → (l.filter q).length < (l.filter p).length
  | [], h => by cases h
  | a :: l, h => by
    have hle : ∀ l : List Nat, (l.filter q).length ≤ (l.filter p).length := by
      intro l
      induction l with
      | nil => simp
      | cons b l ih =>
        by_cases hb : q b = true
        · simp [List.filter_cons, hb, hpq b hb, ih]
        · by_cases hb' : p b = true
          · simp [List.filter_cons, hb, hb']; omega
          · simp [List.filter_cons, hb, hb', ih]
    rcases List.mem_cons.1 h with rfl | h
    · have := hle l
      simp [List.filter_cons, hp, hq]; omega
    · have ih := filter_less hpq hp hq h
      by_cases hb : q a = true
      · simp [List.filter_cons, hb, hpq a hb]; omega
      · by_cases hb' : p a = true
        · simp [List.filter_cons, hb, hb']; omega
        · simp [List.filter_cons, hb, hb']; omega
theorem all_done (htopo : ∀ i o, ops[i]? = some o → ∀ e ∈ o.after, Region.binds md e = true → e.on < i) {listed : Array Bool} (hs : listed.size = ops.size) (hr : Region.ready md ops listed = []) : ∀ j, j < ops.size → listed.getD j false = true := by
  intro j
  induction j using Nat.strongRecOn with
  | _ j ih =>
    intro hj
    cases hl : listed.getD j false with
    | true => rfl
    | false =>
      exfalso
      have : j ∈ Region.ready md ops listed := by
        rw [mem_ready]
        refine ⟨?_, ops[j], Array.getElem?_eq_getElem hj, fun e he hb => ?_⟩
        · have h1 : j < listed.size := by omega
          simp [Array.getD, h1] at hl ⊢
          exact hl
        · have hlt := htopo j ops[j] (Array.getElem?_eq_getElem hj) e he hb
          exact ih e.on hlt (by omega)
      rw [hr] at this
      cases this
theorem wpAny_inv (htopo : ∀ i o, ops[i]? = some o → ∀ e ∈ o.after, Region.binds md e = true → e.on < i) (I : (Nat → Bool) → Act → World → Prop)
    (hstep : ∀ i o, ops[i]? = some o → ∀ d a w, I d a w → d i = false → (∀ e ∈ o.after, Region.binds md e = true → d e.on = true) → wpOp P ops Q i (I (upd d i)) a w)
    (hend : ∀ d a w, (∀ j, j < ops.size → d j = true) → I d a w → Q .normal a w) :
    ∀ (fuel : Nat) (listed : Array Bool) (a : Act) (w : World), listed.size = ops.size → ((List.range ops.size).filter (fun j => !listed.getD j true)).length ≤ fuel → I (fun j => listed.getD j false) a w → wpAny P md ops Q fuel listed a w := by
  intro fuel
  induction fuel with
  | zero =>
    intro listed a w hs hn hI
    have hr : Region.ready md ops listed = [] := by
      cases hr : Region.ready md ops listed with
      | nil => rfl
      | cons x xs =>
        exfalso
        have hx : x ∈ Region.ready md ops listed := by rw [hr]; simp
        rw [mem_ready] at hx
        obtain ⟨h0, o, ho, _⟩ := hx
        have hlt := (Array.getElem?_eq_some_iff.1 ho).1
        have : x ∈ (List.range ops.size).filter (fun j => !listed.getD j true) := by
          rw [List.mem_filter]
          exact ⟨List.mem_range.2 hlt, by rw [h0]; rfl⟩
        have hlen := List.length_pos_of_mem this
        omega
    exact ⟨hr, hend _ _ _ (all_done htopo hs hr) hI⟩
  | succ fuel ih =>
    intro listed a w hs hn hI
    refine ⟨fun hr => hend _ _ _ (all_done htopo hs hr) hI, fun i hi => ?_⟩
    rw [mem_ready] at hi
    obtain ⟨h0, o, ho, hd⟩ := hi
    have hlt := (Array.getElem?_eq_some_iff.1 ho).1
    have hlt' : i < listed.size := by omega
    have hdi : listed.getD i false = false := by
      simp [Array.getD, hlt'] at h0 ⊢
      exact h0
    refine wpOp_mono (fun a' w' hI' => ih _ _ _ (by simpa using hs) ?_ ?_) (hstep i o ho _ a w hI hdi hd)
    · have := filter_less (p := fun j => !listed.getD j true) (q := fun j => !(listed.setIfInBounds i true).getD j true) (i := i) (l := List.range ops.size) (fun j hj => by
        by_cases hji : j = i
        · subst hji; simp [h0]
        · rw [getD_set_ne true (Ne.symm hji)] at hj; exact hj) (by simp [h0]) (by simp [hlt']) (List.mem_range.2 hlt)
      omega
    · have : (fun j => (listed.setIfInBounds i true).getD j false) = upd (fun j => listed.getD j false) i := by
        funext j
        by_cases hji : j = i
        · subst hji; simp [upd, hlt']
        · rw [getD_set_ne false (Ne.symm hji), upd_ne _ hji]
      rw [this]
      exact hI'
/-- what the slots hold behind the operations that are done -/
structure Ev (ops : Array Oper) (base : Act) (d : Nat → Bool) (vals : Nat → Value) (a : Act) : Prop where
  defers : a.defers = base.defers
  size : a.tmps.size = base.tmps.size
  done : ∀ j t, dstOf ops j = some t → d j = true → a.tmps[t]? = some (vals j)
  rest : ∀ t, (∀ j, dstOf ops j = some t → d j = false) → a.tmps[t]? = base.tmps[t]?
theorem okB_spec {n : Nat} (h : okB ops n = true) {i : Nat} {o : Oper} (ho : ops[i]? = some o) : (∀ e ∈ o.after, Region.binds .any e = true → e.on < i) ∧ ∀ t, o.dst = some t → t < n ∧ ∀ j, j ≠ i → dstOf ops j ≠ some t := by
  unfold okB at h
  rw [List.all_eq_true] at h
  have h1 := h i (List.mem_range.2 (Array.getElem?_eq_some_iff.1 ho).1)
  simp only [ho, Bool.and_eq_true, List.all_eq_true] at h1
  obtain ⟨h1, h2⟩ := h1
  refine ⟨fun e he hb => ?_, fun t ht => ?_⟩
  · have := h1 e (by simpa using he)
    simpa [hb] using this
  · simp only [ht, Bool.and_eq_true, decide_eq_true_eq, List.all_eq_true, Bool.or_eq_true, beq_iff_eq] at h2
    refine ⟨h2.1, fun j hj => ?_⟩
    by_cases hlt : j < ops.size
    · exact (h2.2 j (List.mem_range.2 hlt)).resolve_left hj
    · have : ops[j]? = none := Array.getElem?_eq_none (by omega)
      simp [dstOf, this]
theorem Ev.step {base a : Act} {d : Nat → Bool} {vals : Nat → Value} (ev : Ev ops base d vals a) (hB : okB ops base.tmps.size = true) {i : Nat} {o : Oper} (ho : ops[i]? = some o) (v : Value) : Ev ops base (upd d i) (updv vals i v) (a.put o.dst v) := by
  have hdst : dstOf ops i = o.dst := by simp [dstOf, ho]
  cases hd : o.dst with
  | none =>
    rw [hd] at hdst
    refine ⟨ev.defers, ev.size, fun j t ht hj => ?_, fun t ht => ?_⟩
    · have hji : j ≠ i := fun e => by rw [e, hdst] at ht; cases ht
      rw [updv_ne _ _ hji]
      rw [upd_ne _ hji] at hj
      exact ev.done j t ht hj
    · refine ev.rest t fun j hj => ?_
      have hji : j ≠ i := fun e => by rw [e, hdst] at hj; cases hj
      have := ht j hj
      rwa [upd_ne _ hji] at this
  | some s =>
    obtain ⟨hs, hne⟩ := (okB_spec hB ho).2 s hd
    rw [hd] at hdst
    refine ⟨ev.defers, by simpa [Act.put] using ev.size, fun j t ht hj => ?_, fun t ht => ?_⟩
    · by_cases hji : j = i
      · subst hji
        rw [hdst] at ht
        injection ht with ht
        subst ht
        rw [updv_self]
        simp [Act.put, ev.size, hs]
      · have hst : s ≠ t := fun e => hne j hji (by rw [e]; exact ht)
        rw [updv_ne _ _ hji]
        rw [upd_ne _ hji] at hj
        simp only [Act.put]
        rw [Array.getElem?_setIfInBounds_ne hst]
        exact ev.done j t ht hj
    · have hst : s ≠ t := fun e => by
        have := ht i (by rw [hdst, e])
        rw [upd_self] at this
        cases this
      simp only [Act.put]
      rw [Array.getElem?_setIfInBounds_ne hst]
      refine ev.rest t fun j hj => ?_
      have hji : j ≠ i := fun e => hst (by rw [e, hdst] at hj; injection hj)
      have := ht j hj
      rwa [upd_ne _ hji] at this
/-- the frame behind the region -/
def fin (vals : Nat → Value) : List Oper → Nat → Act → Act
  | [], _, a => a
  | o :: l, k, a => fin vals l (k + 1) (a.put o.dst (vals k))
theorem put_size (a : Act) (t : Option Tmp) (v : Value) : (a.put t v).tmps.size = a.tmps.size := by
  cases t <;> simp [Act.put]
theorem fin_ev (vals : Nat → Value) {base : Act} (hB : okB ops base.tmps.size = true) : ∀ (l : List Oper) (k : Nat) (a : Act), (∀ j, l[j]? = ops[k + j]?) → Ev ops base (fun j => decide (j < k)) vals a → Ev ops base (fun j => decide (j < k + l.length)) vals (fin vals l k a)
  | [], k, a, _, h => h
  | o :: l, k, a, hl, h => by
    have h0 : ops[k]? = some o := by simpa using (hl 0).symm
    have h1 := h.step hB h0 (vals k)
    have e1 : upd (fun j => decide (j < k)) k = fun j => decide (j < k + 1) := by
      funext j; simp only [upd]
      by_cases hjk : j = k
      · subst hjk; simp
      · by_cases hj : j < k
        · simp [hj]; omega
        · have : ¬ j < k + 1 := by omega
          simp [hj, hjk, this]
    have e2 : updv vals k (vals k) = vals := by
      funext j; simp only [updv]; split
      · rename_i e; rw [e]
      · rfl
    rw [e1, e2] at h1
    have := fin_ev vals hB l (k + 1) (a.put o.dst (vals k)) (fun j => by have := hl (j + 1); simpa [Nat.add_assoc, Nat.add_comm 1 j] using this) h1
    simpa [fin, Nat.add_assoc, Nat.add_comm 1 l.length] using this
theorem Ev.unique {base a b : Act} {d d' : Nat → Bool} {vals : Nat → Value} (h : Ev ops base d vals a) (k : Ev ops base d' vals b) (hd : ∀ j, j < ops.size → d j = true) (hd' : ∀ j, j < ops.size → d' j = true) : a = b := by
  obtain ⟨ta, da⟩ := a
  obtain ⟨tb, db⟩ := b
  have e1 : da = db := h.defers.trans k.defers.symm
  have e2 : ta = tb := by
    apply Array.ext_getElem?
    intro t
    by_cases hx : ∃ j, dstOf ops j = some t
    · obtain ⟨j, hj⟩ := hx
      have hlt : j < ops.size := by
        rcases Nat.lt_or_ge j ops.size with h' | h'
        · exact h'
        · simp [dstOf, Array.getElem?_eq_none h'] at hj
      exact (h.done j t hj (hd j hlt)).trans (k.done j t hj (hd' j hlt)).symm
    · exact (h.rest t fun j hj => absurd ⟨j, hj⟩ hx).trans (k.rest t fun j hj => absurd ⟨j, hj⟩ hx).symm
  rw [e1, e2]
/-- one operation, whatever came ahead -/
def Step (P : Program) (ops : Array Oper) (Q : Exit → Act → World → Prop) (base : Act) (R : (Nat → Bool) → (Nat → Value) → World → Prop) (k : Nat) (o : Oper) : Prop :=
  ∀ d vals a w, R d vals w → d k = false → (∀ e ∈ o.after.toList, Region.binds .any e = true → d e.on = true) → Ev ops base d vals a →
    ∀ K : Act → World → Prop, (∀ v w', R (upd d k) (updv vals k v) w' → K (a.put o.dst v) w') → if Region.wanted o (yielded ops a.tmps) = true then o.wp P a w K Q else K (a.put o.dst undef) w
def Steps (P : Program) (ops : Array Oper) (Q : Exit → Act → World → Prop) (base : Act) (R : (Nat → Bool) → (Nat → Value) → World → Prop) : Nat → List Oper → Prop
  | _, [] => True
  | k, o :: l => Step P ops Q base R k o ∧ Steps P ops Q base R (k + 1) l
theorem Steps.at_ {base : Act} {R : (Nat → Bool) → (Nat → Value) → World → Prop} : ∀ {l : List Oper} {k j : Nat} {o : Oper}, Steps P ops Q base R k l → l[j]? = some o → Step P ops Q base R (k + j) o
  | [], _, _, _, _, h => by simp at h
  | o :: l, k, 0, o', hs, h => by simp at h; subst h; exact hs.1
  | o :: l, k, j + 1, o', hs, h => by
    have := hs.2.at_ (j := j) (o := o') (by simpa using h)
    rwa [show k + 1 + j = k + (j + 1) by omega] at this
theorem wp_region_inv {id : Nat} {base : Act} {w : World} (hm : P.follows .mixedOrders = true) (hB : okB ops base.tmps.size = true) (R : (Nat → Bool) → (Nat → Value) → World → Prop)
    (h0 : R (fun _ => false) (fun _ => undef) w.drew) (hs : Steps P ops Q base R 0 ops.toList)
    (hend : ∀ d vals w', (∀ j, j < ops.size → d j = true) → R d vals w' → Q .normal (fin vals ops.toList 0 base) w') : (Code.region id ops true).wp P Q base w := by
  refine wp_region_any hm ?_
  refine wpAny_inv (md := .any) (fun i o ho => (okB_spec hB ho).1) (fun d a w => ∃ vals, R d vals w ∧ Ev ops base d vals a) ?_ ?_ _ _ _ _ (by simp) ?_ ?_
  · rintro i o ho d a w' ⟨vals, hR, ev⟩ hd hdep
    have hst := hs.at_ (j := i) (o := o) (by simpa using ho)
    rw [Nat.zero_add] at hst
    have h1 := hst d vals a w' hR hd (fun e he hb => hdep e (by simpa using he) hb) ev (fun a' w'' => ∃ vals', R (upd d i) vals' w'' ∧ Ev ops base (upd d i) vals' a') (fun v w'' hR' => ⟨_, hR', ev.step hB ho v⟩)
    unfold wpOp
    simp only [ho]
    split
    · rename_i hw; rw [if_pos hw] at h1; exact .inl h1
    · rename_i hw; rw [if_neg hw] at h1; exact h1
  · rintro d a w' hd ⟨vals, hR, ev⟩
    have hf := fin_ev vals hB ops.toList 0 base (by simp) ⟨rfl, rfl, fun j t _ hj => by simp at hj, fun t _ => rfl⟩
    have : a = fin vals ops.toList 0 base := ev.unique hf hd (fun j hj => by simpa using hj)
    rw [this]
    exact hend d vals w' hd hR
  · exact Nat.le_trans (List.length_filter_le _ _) (by simp)
  · have e : (fun j => (Array.replicate ops.size false).getD j false) = fun _ => false := by
      funext j
      by_cases hj : j < ops.size
      · simp [Array.getD, hj]
      · simp [Array.getD, hj]
    rw [e]
    exact ⟨fun _ => undef, h0, rfl, rfl, fun j t _ hj => by simp at hj, fun t _ => rfl⟩
theorem Steps.nil {base : Act} {R : (Nat → Bool) → (Nat → Value) → World → Prop} {k : Nat} : Steps P ops Q base R k [] := trivial
theorem Steps.cons {base : Act} {R : (Nat → Bool) → (Nat → Value) → World → Prop} {k k' : Nat} {o : Oper} {l : List Oper} (hk : k' = k + 1) (h : Step P ops Q base R k o) (hl : Steps P ops Q base R k' l) : Steps P ops Q base R k (o :: l) := by subst hk; exact ⟨h, hl⟩
theorem wp_region_inv_lit {id : Nat} {l : List Oper} {base : Act} {w : World} (hm : P.follows .mixedOrders = true) (hB : okB l.toArray base.tmps.size = true) (R : (Nat → Bool) → (Nat → Value) → World → Prop)
    (h0 : R (fun _ => false) (fun _ => undef) w.drew) (hs : ∀ Q', Steps P l.toArray Q' base R 0 l)
    (hend : ∀ d vals w', (∀ j, j < l.length → d j = true) → R d vals w' → Q .normal (fin vals l 0 base) w') : (Code.region id l.toArray true).wp P Q base w :=
  wp_region_inv hm hB R h0 (hs Q) (fun d vals w' hd hR => hend d vals w' (by simpa using hd) hR)
theorem dep {l : List Edge} {d : Nat → Bool} (h : ∀ e ∈ l, Region.binds .any e = true → d e.on = true) (n : Nat) (hn : l.any (fun e => e.on == n && Region.binds .any e) = true) : d n = true := by
  obtain ⟨e, he, hb⟩ := List.any_eq_true.1 hn
  simp only [Bool.and_eq_true, beq_iff_eq] at hb
  rw [← hb.1]
  exact h e he hb.2
theorem Ev.out {base a : Act} {d : Nat → Bool} {vals : Nat → Value} (ev : Ev ops base d vals a) (t : Nat) (ht : ops.all (fun o => o.dst != some t) = true) : a.tmps[t]? = base.tmps[t]? := by
  refine ev.rest t fun j hj => ?_
  cases ho : ops[j]? with
  | none => simp [dstOf, ho] at hj
  | some o =>
    have := (Array.all_eq_true_iff_forall_mem.1 ht) o (Array.mem_of_getElem? ho)
    simp [dstOf, ho] at hj
    simp [hj] at this
theorem Ev.old {base a : Act} {d : Nat → Bool} {vals : Nat → Value} (ev : Ev ops base d vals a) (t j0 : Nat) (ht : (List.range ops.size).all (fun j => j == j0 || dstOf ops j != some t) = true) (h0 : d j0 = false) : a.tmps[t]? = base.tmps[t]? := by
  refine ev.rest t fun j hj => ?_
  by_cases e : j = j0
  · rw [e]; exact h0
  · have hlt : j < ops.size := by
      rcases Nat.lt_or_ge j ops.size with h' | h'
      · exact h'
      · simp [dstOf, Array.getElem?_eq_none h'] at hj
    have := (List.all_eq_true.1 ht) j (List.mem_range.2 hlt)
    simp [e, hj] at this
/-- the slots whose values are known ahead -/
def Fx (fx : Nat → Option Value) (d : Nat → Bool) (vals : Nat → Value) : Prop := ∀ k v, fx k = some v → d k = true → vals k = v
theorem Fx.step {fx : Nat → Option Value} {d : Nat → Bool} {vals : Nat → Value} (h : Fx fx d vals) {k : Nat} {v : Value} (hk : fx k = none ∨ fx k = some v) : Fx fx (upd d k) (updv vals k v) := by
  intro j u hj hd
  by_cases hjk : j = k
  · subst hjk
    rw [updv_self]
    rcases hk with hk | hk
    · rw [hk] at hj; cases hj
    · rw [hk] at hj; injection hj
  · rw [updv_ne _ _ hjk]
    rw [upd_ne _ hjk] at hd
    exact h j u hj hd
theorem Fx.init (fx : Nat → Option Value) (vals : Nat → Value) : Fx fx (fun _ => false) vals := fun _ _ _ h => by cases h
theorem Ev.got {base a : Act} {d : Nat → Bool} {vals : Nat → Value} {fx : Nat → Option Value} (ev : Ev ops base d vals a) (h : Fx fx d vals) (j t : Nat) (v : Value) (ht : dstOf ops j = some t) (hv : fx j = some v) (hd : d j = true) : a.tmps[t]? = some v := by
  rw [ev.done j t ht hd, h j v hv hd]
theorem yielded_of {j t : Nat} {b : Bool} {tmps : Array Value} (hj : dstOf ops j = some t) (x : tmps[t]? = some (.bool b)) : yielded ops tmps j = some b := by
  unfold dstOf at hj
  unfold yielded
  rw [hj]
  simp [x]
theorem wanted_of {o : Oper} {j : Nat} {b : Bool} {y : Nat → Option Bool} (hg : o.guard = some (j, b)) (hy : y j = some b) : Region.wanted o y = true := by simp [Region.wanted, hg, hy]
theorem wanted_not {o : Oper} {j : Nat} {b b' : Bool} {y : Nat → Option Bool} (hg : o.guard = some (j, b)) (hy : y j = some b') (hne : b' ≠ b) : ¬ Region.wanted o y = true := by simp [Region.wanted, hg, hy, hne]
theorem wanted_none {o : Oper} {y : Nat → Option Bool} (hg : o.guard = none) : Region.wanted o y = true := by simp [Region.wanted, hg]
theorem eval_of {a : Act} {t : Nat} {v : Value} (x : a.tmps[t]? = some v) : a.eval (.tmp t) = v := by simp [Act.eval, x]
end
end Go.Proofs.Ytnpmjljpaaaljaa.Reg
