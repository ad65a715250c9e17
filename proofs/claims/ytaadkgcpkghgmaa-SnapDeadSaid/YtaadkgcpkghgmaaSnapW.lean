/- SnapDead: what is dead below the horizon is never seen; what is kept while the log goes on and snapshots are taken. -/
import Derived.Test.YtaadkgcpkghgmaaSnapU
namespace Go.Proofs.Ytaadkgcpkghgmaa.Clg
open Go.ChangeMaps Go.MapKept Go.RowKit Go.Proofs.Ytaadkgcpkghgmaa.Nums Go.Proofs.Ytaadkgcpkghgmaa.Mem
set_option linter.unusedVariables false
set_option linter.unusedSimpArgs false
set_option maxRecDepth 100000
/-- none of them will ever be seen by s -/
def NV (S : List Nat) (dl : List (Nat × Nat)) (s : Sp) : Prop := ∀ t ∈ dl, stOf 1 S t.1 = 3 ∨ (stOf 1 S t.2 = 2 ∧ t.2 < s.xmax ∧ foundB t.2 s.run = false)
theorem nv_vis {S S' : List Nat} {dl : List (Nat × Nat)} {s : Sp} (h : NV S dl s) (hl : Later S S') {t : Nat × Nat} (ht : t ∈ dl) (h1 : t.1 ≠ s.own) (h2 : t.2 ≠ s.own) : visB 1 S' s.own s.xmax s.run t.1 t.2 = false := by
  unfold visB
  rcases h t ht with h3 | ⟨h3, h4, h5⟩
  · have : seesB 1 S' s.own s.xmax s.run t.1 = false := by
      unfold seesB
      rw [if_neg h1, hl.2 _ (.inr h3), h3]
      split
      · rfl
      · split <;> rfl
    rw [this]; rfl
  · have h0 : (t.2 == 0) = false := by
      rw [beq_eq_false_iff_ne]
      intro e
      rw [e, st_out (.inl (by omega))] at h3
      cases h3
    have : seesB 1 S' s.own s.xmax s.run t.2 = true := by
      unfold seesB
      rw [if_neg h2, if_neg (by omega), if_neg (by rw [h5]; simp), hl.2 _ (.inl h3), h3]
      rfl
    rw [this, h0]; simp
theorem headD_le {R : List Nat} (h : R.Pairwise (· < ·)) {x y : Nat} (hx : x ∈ R) : R.headD y ≤ x := by
  cases R with
  | nil => cases hx
  | cons a l =>
    rcases List.mem_cons.1 hx with rfl | hx
    · exact Nat.le_refl _
    · exact Nat.le_of_lt ((List.pairwise_cons.1 h).1 x hx)
theorem xmin_lt {S0 : List Nat} {own b : Nat} (hb : b < xminOf 1 S0 own) : b < 1 + S0.length ∧ foundB b (runX 1 S0 own) = false := by
  have hs : (runX 1 S0 own).Pairwise (· < ·) := (runs_sorted S0 1).filter _
  unfold xminOf at hb
  refine ⟨?_, ?_⟩
  · cases hq : runX 1 S0 own with
    | nil => rw [hq] at hb; exact hb
    | cons a l =>
      rw [hq] at hb
      have hm : a ∈ runX 1 S0 own := by rw [hq]; simp
      have := (runs_ge (List.mem_filter.1 hm).1).2
      exact Nat.lt_trans hb this
  · unfold foundB
    cases hc : (runX 1 S0 own).contains b with
    | false => rfl
    | true =>
      have hm : b ∈ runX 1 S0 own := by simpa [List.contains_eq_mem] using hc
      have := headD_le (y := 1 + S0.length) hs hm
      omega
/-- those that were dead when the horizon was told -/
theorem nv_old {S : List Nat} {dl : List (Nat × Nat)} {s : Sp} (hs : s.of S) {h : Nat} (hh : h ≤ s.xmin) (hd : ∀ t ∈ dl, deadB 1 S t.1 t.2 h = true) : NV S dl s := by
  obtain ⟨S0, h0, h1, h2, h3, h4⟩ := hs
  intro t ht
  have := hd t ht
  unfold deadB at this
  simp only [Bool.or_eq_true, beq_iff_eq, Bool.and_eq_true, decide_eq_true_eq] at this
  rcases this with h5 | ⟨h5, h6⟩
  · exact .inl h5
  · obtain ⟨a, b⟩ := xmin_lt (S0 := S0) (own := s.own) (b := t.2) (by rw [← h2]; omega)
    exact .inr ⟨h6, by rw [h3]; exact a, by rw [h1]; exact b⟩
/-- a snapshot that is taken later -/
theorem nv_new {S S1 : List Nat} {dl : List (Nat × Nat)} {s : Sp} (hl : Later S S1) (hx : s.xmax = 1 + S1.length) (hr : s.run = runX 1 S1 s.own) {h : Nat} (hd : ∀ t ∈ dl, deadB 1 S t.1 t.2 h = true) : NV S dl s := by
  intro t ht
  have := hd t ht
  unfold deadB at this
  simp only [Bool.or_eq_true, beq_iff_eq, Bool.and_eq_true, decide_eq_true_eq] at this
  rcases this with h5 | ⟨h5, h6⟩
  · exact .inl h5
  · have hi := (st_in (f := 1) (S := S) (x := t.2) (by omega)).2
    refine .inr ⟨h6, by rw [hx]; have := hl.1; omega, ?_⟩
    unfold foundB
    cases hc : s.run.contains t.2 with
    | false => rfl
    | true =>
      have hm : t.2 ∈ s.run := by simpa [List.contains_eq_mem] using hc
      rw [hr] at hm
      have h7 := st_runs.1 (List.mem_filter.1 hm).1
      rw [hl.2 _ (.inl h6), h6] at h7
      cases h7
theorem own_mono {w : World} {b b' sz n : Nat} {e : TypeId} {v : Value} {xs : List Value} (h : w.ownsRow b e sz v n xs) (hb : b' ≤ b) : w.ownsRow b' e sz v n xs :=
  ⟨h.1, h.2.imp id fun ⟨g, cap, cur, e, hg, r⟩ => ⟨g, cap, cur, e, Nat.le_trans hb hg, r⟩⟩
def toSv (s : Sp) : Sv := ⟨s.own, s.xmin, s.xmax, s.A, s.run.length, s.c⟩
theorem svs_cas (l : List Sp) : svs (l.map toSv) = cas l := by
  unfold svs cas
  rw [List.flatMap_map]
  rfl
structure LS (w1 w2 W : World) (K Kv : Nat → Prop) (P Q : Nat) (S S' : List Nat) (lv : List Sp) (A : Option Addr) (c : Nat) (dl : List (Nat × Nat)) (A3 : Option Addr) (c3 : Nat) : Prop where
  ap : AP w1 W Kv P Q 1 S' S
  ok : ∀ s ∈ S', 1 ≤ s ∧ s ≤ 3
  lat : Later S S'
  kge : ∀ g, Kv g → w1.heap.size ≤ g
  k1 : ∀ g, K g → Kv g ∧ W.heap[g]? = w2.heap[g]?
  own : OwnS W w1.heap.size (.slice A lv.length c) lv.length (cas lv)
  kO : ∀ g, (Value.slice A lv.length c).ownBlock = some g → Kv g
  kN : ∀ g, (Value.slice A lv.length c).ownBlock = some g → ¬ K g
  dead : OwnT W w1.heap.size (.slice A3 dl.length c3) dl.length (tups dl)
  kD : ∀ g, (Value.slice A3 dl.length c3).ownBlock = some g → Kv g
  el : ∀ s ∈ lv, SlU W s.A s.c s.run ∧ (∀ ad, 0 < s.run.length → s.A = some ad → Kv ad.block ∧ (Value.slice A lv.length c).ownBlock ≠ some ad.block) ∧ NV S dl s
section
variable {w1 w2 W W' : World} {K Kv : Nat → Prop} {P Q c c3 : Nat} {S S' S2 : List Nat} {lv : List Sp} {dl : List (Nat × Nat)} {A A3 : Option Addr}
theorem AP.klt {w0 w : World} {K : Nat → Prop} {P Q f : Nat} {S T : List Nat} (h : AP w0 w K P Q f S T) : ∀ g, K g → g < w.heap.size := fun g hg => by
  obtain ⟨F, G, _, _, _, _, _, h6, _⟩ := h
  exact (h6 g hg).2.2
theorem LS.goes (h : LS w1 w2 W K Kv P Q S S' lv A c dl A3 c3) (ha : AP w1 W' Kv P Q 1 S2 S) (hk : KeepK Kv W W') (hok : ∀ s ∈ S2, 1 ≤ s ∧ s ≤ 3) (hl : Later S' S2) : LS w1 w2 W' K Kv P Q S S2 lv A c dl A3 c3 :=
  ⟨ha, hok, h.lat.trans hl, h.kge, fun g hg => ⟨(h.k1 g hg).1, (hk g (h.k1 g hg).1).trans (h.k1 g hg).2⟩, own_keep h.own fun g hg => hk g (h.kO g hg), h.kO, h.kN, own_keep h.dead fun g hg => hk g (h.kD g hg), h.kD, fun s hs => by
    obtain ⟨h1, h2, h3⟩ := h.el s hs
    exact ⟨h1.keep' fun ad h0 e => ⟨hk _ (h2 ad h0 e).1, ha.klt _ (h2 ad h0 e).1⟩, h2, h3⟩⟩
theorem LS.below (h : LS w1 w2 W K Kv P Q S S' lv A c dl A3 c3) (hb : Below W.heap.size W W') : LS w1 w2 W' K Kv P Q S S' lv A c dl A3 c3 :=
  h.goes (h.ap.below hb).1 (h.ap.below hb).2 h.ok (Later.refl _)
/-- one more is taken and laid behind -/
theorem LS.more {W2 : World} (h : LS w1 w2 W K Kv P Q S S' lv A c dl A3 c3) (hb : Below W.heap.size W W2) {s : Sp} (hs : SlU W2 s.A s.c s.run) (hf : ∀ ad, 0 < s.run.length → s.A = some ad → W.heap.size ≤ ad.block) (hnv : NV S dl s)
    {o : Obj} {v : Value} (ho : OwnS W' w1.heap.size v (lv.length + 1) (cas lv ++ s.ca)) (hk : Kin (W2.alloc o) W' (.slice A lv.length c) v) : ∃ Kv' A' c', v = .slice A' (lv ++ [s]).length c' ∧ LS w1 w2 W' K Kv' P Q S S' (lv ++ [s]) A' c' dl A3 c3 := by
  obtain ⟨A', c', rfl, _⟩ := Sl.of_own ho
  have hlen : (lv ++ [s]).length = lv.length + 1 := by simp
  have hbo : Below W.heap.size W (W2.alloc o) := hb.alloc hb.size o
  have hoa : (W2.alloc o).ownsRow w1.heap.size 48 4 (.slice A lv.length c) lv.length (cas lv) := own_below h.own hbo
  have hda : (W2.alloc o).ownsRow w1.heap.size 42 6 (.slice A3 dl.length c3) dl.length (tups dl) := own_below h.dead hbo
  have hT : Turn Kv W W' := (Turn.of_below hbo).kin hk (fun g hg => .inl (h.kO g hg))
  have hkl := h.ap.klt
  have same : ∀ g, g < W2.heap.size → (Value.slice A lv.length c).ownBlock ≠ some g → W'.heap[g]? = W2.heap[g]? := fun g hg hne => (hk.1.block g (by rw [size_alloc]; omega) (Ne.symm hne)).trans (Below.heap_alloc W2 o g hg)
  have hsz : W2.heap.size ≤ W'.heap.size := Nat.le_trans (by rw [size_alloc]; omega) hk.1.size
  have newown : ∀ g, (Value.slice A' (lv.length + 1) c').ownBlock = some g → (Value.slice A lv.length c).ownBlock = some g ∨ W2.heap.size < g := fun g hg => by
    rcases hk.2 with e | ⟨g', e, hg'⟩
    · exact .inl (by rw [← e]; exact hg)
    · rw [e] at hg; injection hg with hg; subst hg
      rw [size_alloc] at hg'
      exact .inr (by omega)
  refine ⟨New Kv W W', A', c', by rw [hlen], ⟨h.ap.grow hT h.kge, h.ok, h.lat, ?_, fun g hg => ⟨.inl (h.k1 g hg).1, ?_⟩, by rw [hlen, cas_app]; simpa [cas] using ho, fun g hg => ?_, fun g hg hK => ?_, ?_, fun g hg => .inl (h.kD g hg), fun t ht => ?_⟩⟩
  · rintro g (hg | hg)
    · exact h.kge g hg
    · have := h.ap.bel.size; omega
  · have hkv := (h.k1 g hg).1
    have hne : (Value.slice A lv.length c).ownBlock ≠ some g := fun e => h.kN g e hg
    exact (same g (Nat.lt_of_lt_of_le (hkl g hkv) hb.size) hne).trans ((hb.block g (hkl g hkv)).trans (h.k1 g hg).2)
  · rw [hlen] at hg
    rcases newown g hg with e | e
    · exact .inl (h.kO g e)
    · exact .inr ⟨by have := hb.size; omega, (World.ownsRow.lt ho g hg).2⟩
  · rw [hlen] at hg
    rcases newown g hg with e | e
    · exact h.kN g e hK
    · have := hkl g (h.k1 g hK).1; have := hb.size; omega
  · exact own_keep hda fun g hg => hk.1.block g (World.ownsRow.lt hda g hg).2 (Ne.symm (own_ne_own hoa hda (by decide) g hg))
  · rw [hlen]
    rcases List.mem_append.1 ht with ht | ht
    · obtain ⟨h1, h2, h3⟩ := h.el t ht
      have hlt : ∀ ad, 0 < t.run.length → t.A = some ad → ad.block < W.heap.size := fun ad h0 e => h1.lt ad h0 e
      refine ⟨h1.keep' fun ad h0 e => ⟨(same _ (Nat.lt_of_lt_of_le (hlt ad h0 e) hb.size) (h2 ad h0 e).2).trans (hb.block _ (hlt ad h0 e)), Nat.lt_of_lt_of_le (hlt ad h0 e) (Nat.le_trans hb.size hsz)⟩, fun ad h0 e => ⟨.inl (h2 ad h0 e).1, fun e2 => ?_⟩, h3⟩
      rcases newown _ e2 with e3 | e3
      · exact (h2 ad h0 e).2 e3
      · have := hlt ad h0 e; have := hb.size; omega
    · cases List.mem_singleton.1 ht
      have hlt : ∀ ad, 0 < s.run.length → s.A = some ad → ad.block < W2.heap.size := fun ad h0 e => hs.lt ad h0 e
      have hno : ∀ ad, 0 < s.run.length → s.A = some ad → (Value.slice A lv.length c).ownBlock ≠ some ad.block := fun ad h0 e e2 => by have := (World.ownsRow.lt h.own _ e2).2; have := hf ad h0 e; omega
      refine ⟨hs.keep' fun ad h0 e => ⟨same _ (hlt ad h0 e) (hno ad h0 e), Nat.lt_of_lt_of_le (hlt ad h0 e) hsz⟩, fun ad h0 e => ⟨.inr ⟨hf ad h0 e, Nat.lt_of_lt_of_le (hlt ad h0 e) hsz⟩, fun e2 => ?_⟩, hnv⟩
      rcases newown _ e2 with e3 | e3
      · exact hno ad h0 e e3
      · have := hlt ad h0 e; omega
end
/-- two lists of one's own, above w2: snapshots, and what is dead -/
structure L2 (w2 W : World) (lv : List Sp) (A : Option Addr) (c : Nat) (dl : List (Nat × Nat)) (A3 : Option Addr) (c3 : Nat) : Prop where
  bel : Below w2.heap.size w2 W
  own : OwnS W w2.heap.size (.slice A lv.length c) lv.length (cas lv)
  dead : OwnT W w2.heap.size (.slice A3 dl.length c3) dl.length (tups dl)
section
variable {w2 W W' : World} {c c3 : Nat} {lv : List Sp} {dl : List (Nat × Nat)} {A A3 : Option Addr}
theorem L2.below (h : L2 w2 W lv A c dl A3 c3) (hb : Below W.heap.size W W') : L2 w2 W' lv A c dl A3 c3 := ⟨h.bel.trans (hb.mono h.bel.size), own_below h.own hb, own_below h.dead hb⟩
theorem L2.snap (h : L2 w2 W lv A c dl A3 c3) {s : Sp} {o : Obj} {v : Value} (ho : OwnS W' w2.heap.size v (lv.length + 1) (cas lv ++ s.ca)) (hk : Kin (W.alloc o) W' (.slice A lv.length c) v) : ∃ A' c', v = .slice A' (lv ++ [s]).length c' ∧ L2 w2 W' (lv ++ [s]) A' c' dl A3 c3 := by
  obtain ⟨A', c', rfl, _⟩ := Sl.of_own ho
  have hlen : (lv ++ [s]).length = lv.length + 1 := by simp
  have hoa : (W.alloc o).ownsRow w2.heap.size 48 4 (.slice A lv.length c) lv.length (cas lv) := World.ownsRow.alloc h.own o
  have hda : (W.alloc o).ownsRow w2.heap.size 42 6 (.slice A3 dl.length c3) dl.length (tups dl) := World.ownsRow.alloc h.dead o
  have h1 : Below w2.heap.size w2 (W.alloc o) := h.bel.alloc h.bel.size o
  exact ⟨A', c', by rw [hlen], h1.trans (hk.below h1.size fun g hg => (World.ownsRow.lt hoa g hg).1), by rw [hlen, cas_app]; simpa [cas] using ho, own_keep hda fun g hg => hk.1.block g (World.ownsRow.lt hda g hg).2 (Ne.symm (own_ne_own hoa hda (by decide) g hg))⟩
theorem L2.tupl (h : L2 w2 W lv A c dl A3 c3) {t : Nat × Nat} {o : Obj} {v : Value} (ho : OwnT W' w2.heap.size v (dl.length + 1) (tups dl ++ tup t)) (hk : Kin (W.alloc o) W' (.slice A3 dl.length c3) v) : ∃ A' c', v = .slice A' (dl ++ [t]).length c' ∧ L2 w2 W' lv A c (dl ++ [t]) A' c' := by
  obtain ⟨A', c', rfl, _⟩ := Sl.of_own ho
  have hlen : (dl ++ [t]).length = dl.length + 1 := by simp
  have hoa : (W.alloc o).ownsRow w2.heap.size 48 4 (.slice A lv.length c) lv.length (cas lv) := World.ownsRow.alloc h.own o
  have hda : (W.alloc o).ownsRow w2.heap.size 42 6 (.slice A3 dl.length c3) dl.length (tups dl) := World.ownsRow.alloc h.dead o
  have h1 : Below w2.heap.size w2 (W.alloc o) := h.bel.alloc h.bel.size o
  exact ⟨A', c', by rw [hlen], h1.trans (hk.below h1.size fun g hg => (World.ownsRow.lt hda g hg).1), own_keep hoa fun g hg => hk.1.block g (World.ownsRow.lt hoa g hg).2 (Ne.symm (own_ne_own hda hoa (by decide) g hg)), by rw [hlen, tups_app]; simpa [tups] using ho⟩
/-- from there on the log goes on -/
theorem L2.ls {w1 : World} {K : Nat → Prop} {PB P Q c1 d1 : Nat} {S : List Nat} {sl : List Sp} {A1 B1 : Option Addr} (h : L2 w2 W lv A c dl A3 c3) (hp : PS w1 w2 K PB P Q S sl A1 c1 B1 d1) (hlv : ∀ s ∈ lv, s ∈ sl) (hnv : ∀ s ∈ lv, NV S dl s) : LS w1 w2 W K (New K w2 W) P Q S S lv A c dl A3 c3 := by
  have hT : Turn K w2 W := Turn.of_below h.bel
  have hkl := hp.ap.klt
  refine ⟨hp.ap.grow hT hp.kge, hp.ok, Later.refl _, ?_, fun g hg => ⟨.inl hg, h.bel.block g (hkl g hg)⟩, own_mono h.own hp.ap.bel.size, fun g hg => .inr ⟨(World.ownsRow.lt h.own g hg).1, (World.ownsRow.lt h.own g hg).2⟩, fun g hg hK => by have := (World.ownsRow.lt h.own g hg).1; have := hkl g hK; omega, own_mono h.dead hp.ap.bel.size, fun g hg => .inr ⟨(World.ownsRow.lt h.dead g hg).1, (World.ownsRow.lt h.dead g hg).2⟩, fun s hs => ?_⟩
  · rintro g (hg | hg)
    · exact hp.kge g hg
    · have := hp.ap.bel.size; omega
  · obtain ⟨h1, h2⟩ := hp.sp s (hlv s hs)
    refine ⟨Sl.on h1.a h.bel, fun ad h0 e => ⟨.inl (h1.ka ad h0 e), fun e2 => ?_⟩, hnv s hs⟩
    have := (World.ownsRow.lt h.own _ e2).1
    have := hkl _ (h1.ka ad h0 e)
    omega
end
end Go.Proofs.Ytaadkgcpkghgmaa.Clg
