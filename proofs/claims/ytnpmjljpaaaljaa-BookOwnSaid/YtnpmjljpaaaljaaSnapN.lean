/- lapidarylaw10.play lays two snapshots behind its lists: what is there behind each operation; the pair grows. -/
import Derived.Test.YtnpmjljpaaaljaaSnapM
namespace Go.Proofs.Ytnpmjljpaaaljaa.Clg
open Go.ChangeMaps Go.MapKept Go.RowKit Go.Proofs.Ytnpmjljpaaaljaa.Nums Go.Proofs.Ytnpmjljpaaaljaa.Mem
set_option linter.unusedVariables false
set_option linter.unusedSimpArgs false
set_option maxRecDepth 100000
theorem infoSn : (Try.prog.info? 48).map (fun i => (i.zero, i.size, i.bytes)) = some (some (.agg #[.int .u64 0, .int .u64 0, .int .u64 0, .slice none 0 0]), 4, 48) := by kernel_rfl
theorem infoRn : (Try.prog.info? 52).map (fun i => (i.zero, i.size, i.bytes)) = some (some (.agg #[.int .u64 0, .int .u64 0, .slice none 0 0]), 3, 40) := by kernel_rfl
theorem ca_one (s : Sp) : ∀ u ∈ s.ca, u.oneCell' = true := by
  intro u hu; unfold Sp.ca at hu; simp at hu; rcases hu with rfl | rfl | rfl | rfl <;> rfl
theorem cb_one (s : Sp) : ∀ u ∈ s.cb, u.oneCell' = true := by
  intro u hu; unfold Sp.cb at hu; simp at hu; rcases hu with rfl | rfl | rfl <;> rfl
theorem lies_blk {w : World} {g sz n : Nat} {t : TypeId} {cs : Array Value} (h : Blk w g t cs) (hn : cs.size = n * sz) : Lies w w.heap.size sz (.slice (some ⟨g, 0, none⟩) n n) n cs.toList :=
  Lies.some_ ⟨h.lt, fun j u hu => by
    rw [add_flat, h.cell, ← hu]
    simp⟩ (by simpa using hn) (Nat.le_refl _)
theorem own_ne_own {w : World} {b b' sz sz' n n' : Nat} {e e' : TypeId} {v v' : Value} {xs xs' : List Value} (h : w.ownsRow b e sz v n xs) (h' : w.ownsRow b' e' sz' v' n' xs') (hne : e ≠ e') : ∀ g, v'.ownBlock = some g → v.ownBlock ≠ some g := by
  intro g hg
  rcases h'.2 with ⟨rfl, _⟩ | ⟨g', cap, cur, rfl, _, hh, _⟩
  · simp [Value.ownBlock] at hg
  · have : g' = g := by simpa [Value.ownBlock] using hg
    subst this
    exact own_blk_ne h (t := e') hh hne
/-- what may turn: the pair, and both lists -/
def GP (PB : Nat) (v u : Value) : Nat → Prop := fun g => g = PB ∨ v.ownBlock = some g ∨ u.ownBlock = some g
structure M24 (B0 : Nat) (V W : World) (PB P Q : Nat) (l : List Sp) (A : Option Addr) (c : Nat) (B : Option Addr) (d n : Nat) (s : Sp) (ba bA bs bb bB bt : Bool) (va vA vb vB : Value) : Prop where
  turn : Turn (GP PB (.slice A n c) (.slice B n d)) V W
  pV : PB < V.heap.size
  pb : Blk W PB 35 #[.pointer (some ⟨P, 0, none⟩), .pointer (some ⟨Q, 0, none⟩), if bs then vA else .slice A n c, if bt then vB else .slice B n d]
  la : ba = true → bA = false → ∃ g, va = .slice (some ⟨g, 0, none⟩) 1 1 ∧ V.heap.size ≤ g ∧ Blk W g 48 s.ca.toArray
  lb : bb = true → bB = false → ∃ g, vb = .slice (some ⟨g, 0, none⟩) 1 1 ∧ V.heap.size ≤ g ∧ Blk W g 52 s.cb.toArray
  oa : W.ownsRow B0 48 4 (if bA then vA else .slice A n c) (if bA then n + 1 else n) (if bA then cas l ++ s.ca else cas l)
  ob : W.ownsRow B0 52 3 (if bB then vB else .slice B n d) (if bB then n + 1 else n) (if bB then cbs l ++ s.cb else cbs l)
  ia : bA = true → vA.ownBlock = (Value.slice A n c).ownBlock ∨ ∃ g, vA.ownBlock = some g ∧ V.heap.size ≤ g
  ib : bB = true → vB.ownBlock = (Value.slice B n d).ownBlock ∨ ∃ g, vB.ownBlock = some g ∧ V.heap.size ≤ g
  o1 : bA = true → ba = true
  o2 : bB = true → bb = true
  o3 : bs = true → bA = true
  o4 : bt = true → bB = true
section
variable {B0 n PB P Q c d : Nat} {V W W' : World} {l : List Sp} {A B : Option Addr} {s : Sp} {ba bA bs bb bB bt : Bool} {va vA vb vB : Value}
theorem m24_new (hpb : Blk V PB 35 #[.pointer (some ⟨P, 0, none⟩), .pointer (some ⟨Q, 0, none⟩), .slice A n c, .slice B n d]) (ha : V.ownsRow B0 48 4 (.slice A n c) n (cas l)) (hb : V.ownsRow B0 52 3 (.slice B n d) n (cbs l)) (s : Sp) (va vA vb vB : Value) :
    M24 B0 V V.drew PB P Q l A c B d n s false false false false false false va vA vb vB :=
  ⟨⟨rfl, rfl, rfl, Nat.le_refl _, fun _ _ _ => rfl⟩, hpb.lt, hpb, nofun, nofun, own_keep ha fun _ _ => rfl, own_keep hb fun _ _ => rfl, nofun, nofun, nofun, nofun, nofun, nofun⟩
theorem m24_ba (h : M24 B0 V W PB P Q l A c B d n s false bA bs bb bB bt va vA vb vB) : M24 B0 V (W.alloc (.cells s.ca.toArray 48)) PB P Q l A c B d n s true bA bs bb bB bt (.slice (some ⟨W.heap.size, 0, none⟩) 1 1) vA vb vB := by
  have hA : bA = false := by cases bA; rfl; exact absurd (h.o1 rfl) (by simp)
  subst hA
  refine ⟨h.turn.alloc _, h.pV, h.pb.alloc _, fun _ _ => ⟨_, rfl, h.turn.size, Blk.new W _ _⟩, fun k1 k2 => ?_, World.ownsRow.alloc h.oa _, World.ownsRow.alloc h.ob _, nofun, h.ib, nofun, h.o2, h.o3, h.o4⟩
  obtain ⟨g, e, k, hb⟩ := h.lb k1 k2
  exact ⟨g, e, k, hb.alloc _⟩
theorem m24_bb (h : M24 B0 V W PB P Q l A c B d n s ba bA bs false bB bt va vA vb vB) : M24 B0 V (W.alloc (.cells s.cb.toArray 52)) PB P Q l A c B d n s ba bA bs true bB bt va vA (.slice (some ⟨W.heap.size, 0, none⟩) 1 1) vB := by
  have hB : bB = false := by cases bB; rfl; exact absurd (h.o2 rfl) (by simp)
  subst hB
  refine ⟨h.turn.alloc _, h.pV, h.pb.alloc _, fun k1 k2 => ?_, fun _ _ => ⟨_, rfl, h.turn.size, Blk.new W _ _⟩, World.ownsRow.alloc h.oa _, World.ownsRow.alloc h.ob _, h.ia, nofun, h.o1, nofun, h.o3, h.o4⟩
  obtain ⟨g, e, k, hb⟩ := h.la k1 k2
  exact ⟨g, e, k, hb.alloc _⟩
theorem m24_bA (h : M24 B0 V W PB P Q l A c B d n s true false bs bb bB bt va vA vb vB) {v' : Value} (ho : W'.ownsRow B0 48 4 v' (n + 1) (cas l ++ s.ca)) (hk : Kin W W' (.slice A n c) v') : M24 B0 V W' PB P Q l A c B d n s true true bs bb bB bt va v' vb vB := by
  have hs : bs = false := by cases bs; rfl; exact absurd (h.o3 rfl) (by simp)
  subst hs
  have hoa : W.ownsRow B0 48 4 (.slice A n c) n (cas l) := h.oa
  have hf : Far W W' PB (.slice A n c) v' := Far.of_kin (u := .slice A n c) hk
  refine ⟨h.turn.kin hk (fun g hg => .inl (.inr (.inl hg))), h.pV, (hk.1.block _ h.pb.lt (Ne.symm (own_blk_ne hoa h.pb (by decide)))).trans h.pb, nofun, fun k1 k2 => ?_, ho, own_keep h.ob fun g hg => ?_, fun _ => ?_, h.ib, fun _ => rfl, h.o2, nofun, h.o4⟩
  · obtain ⟨g, e, k, hb⟩ := h.lb k1 k2
    exact ⟨g, e, k, (hk.1.block _ hb.lt (Ne.symm (own_blk_ne hoa hb (by decide)))).trans hb⟩
  · exact hk.1.block g (World.ownsRow.lt h.ob g hg).2 (Ne.symm (own_ne_own hoa h.ob (by decide) g hg))
  · rcases hk.2 with h' | ⟨g, h', hg⟩
    · exact .inl h'
    · exact .inr ⟨g, h', Nat.le_trans h.turn.size hg⟩
theorem m24_bB (h : M24 B0 V W PB P Q l A c B d n s ba bA bs true false bt va vA vb vB) {v' : Value} (ho : W'.ownsRow B0 52 3 v' (n + 1) (cbs l ++ s.cb)) (hk : Kin W W' (.slice B n d) v') : M24 B0 V W' PB P Q l A c B d n s ba bA bs true true bt va vA vb v' := by
  have hs : bt = false := by cases bt; rfl; exact absurd (h.o4 rfl) (by simp)
  subst hs
  have hob : W.ownsRow B0 52 3 (.slice B n d) n (cbs l) := h.ob
  refine ⟨h.turn.kin hk (fun g hg => .inl (.inr (.inr hg))), h.pV, (hk.1.block _ h.pb.lt (Ne.symm (own_blk_ne hob h.pb (by decide)))).trans h.pb, fun k1 k2 => ?_, nofun, own_keep h.oa fun g hg => ?_, ho, h.ia, fun _ => ?_, h.o1, fun _ => rfl, h.o3, nofun⟩
  · obtain ⟨g, e, k, hb⟩ := h.la k1 k2
    exact ⟨g, e, k, (hk.1.block _ hb.lt (Ne.symm (own_blk_ne hob hb (by decide)))).trans hb⟩
  · exact hk.1.block g (World.ownsRow.lt h.oa g hg).2 (Ne.symm (own_ne_own hob h.oa (by decide) g hg))
  · rcases hk.2 with h' | ⟨g, h', hg⟩
    · exact .inl h'
    · exact .inr ⟨g, h', Nat.le_trans h.turn.size hg⟩
theorem own_far {w : World} {b sz n : Nat} {e t : TypeId} {v u : Value} {xs : List Value} {g i : Nat} {cs : Array Value} (h : w.ownsRow b e sz v n xs) (hg : Blk w g t cs) (hne : e ≠ t) : (w.setCell ⟨g, i, none⟩ u).ownsRow b e sz v n xs :=
  own_keep h fun k hk => Below.heap_setCell w _ _ k (fun e => own_blk_ne h hg hne (by rw [hk, e]))
theorem m24_bs (h : M24 B0 V W PB P Q l A c B d n s ba true false bb bB bt va vA vb vB) : M24 B0 V (W.setCell ⟨PB, 2, none⟩ vA) PB P Q l A c B d n s ba true true bb bB bt va vA vb vB := by
  refine ⟨h.turn.set_ (.inl (.inl rfl)) _, h.pV, h.pb.set_ 2 _, nofun, fun k1 k2 => ?_, own_far h.oa h.pb (by decide), own_far h.ob h.pb (by decide), h.ia, h.ib, h.o1, h.o2, fun _ => rfl, h.o4⟩
  obtain ⟨g, e, k, hb⟩ := h.lb k1 k2
  exact ⟨g, e, k, hb.far (hb.ne_ h.pb (by decide)) _⟩
theorem m24_bt (h : M24 B0 V W PB P Q l A c B d n s ba bA bs bb true false va vA vb vB) : M24 B0 V (W.setCell ⟨PB, 3, none⟩ vB) PB P Q l A c B d n s ba bA bs bb true true va vA vb vB := by
  refine ⟨h.turn.set_ (.inl (.inl rfl)) _, h.pV, h.pb.set_ 3 _, fun k1 k2 => ?_, nofun, own_far h.oa h.pb (by decide), own_far h.ob h.pb (by decide), h.ia, h.ib, h.o1, h.o2, h.o3, fun _ => rfl⟩
  obtain ⟨g, e, k, hb⟩ := h.la k1 k2
  exact ⟨g, e, k, hb.far (hb.ne_ h.pb (by decide)) _⟩
theorem M24.cellA' (h : M24 B0 V W PB P Q l A c B d n s ba bA bs bb bB bt va vA vb vB) (hb : bs = false) : W.cell? ⟨PB, 2, none⟩ = some (.slice A n c) := by subst hb; exact h.pb.cell 2
theorem M24.cellB' (h : M24 B0 V W PB P Q l A c B d n s ba bA bs bb bB bt va vA vb vB) (hb : bt = false) : W.cell? ⟨PB, 3, none⟩ = some (.slice B n d) := by subst hb; exact h.pb.cell 3
theorem M24.cellA (h : M24 B0 V W PB P Q l A c B d n s ba bA false bb bB bt va vA vb vB) : W.cell? ⟨PB, 2, none⟩ = some (.slice A n c) := h.pb.cell 2
theorem M24.cellB (h : M24 B0 V W PB P Q l A c B d n s ba bA bs bb bB false va vA vb vB) : W.cell? ⟨PB, 3, none⟩ = some (.slice B n d) := h.pb.cell 3
end
/-- the lists' memory is apart from the snapshots' -/
def Apart (PB : Nat) (l : List Sp) (v u : Value) : Prop := ∀ s ∈ l, ∀ ad, 0 < s.run.length → s.A = some ad ∨ s.B = some ad → ¬ GP PB v u ad.block
theorem apart_nil (PB : Nat) (v u : Value) : Apart PB [] v u := fun _ h => by cases h
theorem PS.grow {w0 U V W : World} {K : Nat → Prop} {PB P Q : Nat} {S : List Nat} {l : List Sp} {A B : Option Addr} {c d n : Nat} (h : PS w0 U K PB P Q S l A c B d) (hn : l.length = n) (hA : Apart PB l (.slice A n c) (.slice B n d)) (hUV : Below U.heap.size U V)
    {s : Sp} (hs1 : SlU V s.A s.c s.run) (hs2 : SlU V s.B s.d s.run) (hf : ∀ ad, 0 < s.run.length → s.A = some ad ∨ s.B = some ad → U.heap.size ≤ ad.block) (hof : s.of S) {va vA vb vB : Value} (hm : M24 w0.heap.size V W PB P Q l A c B d n s true true true true true true va vA vb vB) :
    ∃ K' A' c' B' d', PS w0 W K' PB P Q S (l ++ [s]) A' c' B' d' ∧ Apart PB (l ++ [s]) (.slice A' (n + 1) c') (.slice B' (n + 1) d') := by
  have hoa : W.ownsRow w0.heap.size 48 4 vA (n + 1) (cas l ++ s.ca) := hm.oa
  have hob : W.ownsRow w0.heap.size 52 3 vB (n + 1) (cbs l ++ s.cb) := hm.ob
  have hpb : Blk W PB 35 #[.pointer (some ⟨P, 0, none⟩), .pointer (some ⟨Q, 0, none⟩), vA, vB] := hm.pb
  have hia := hm.ia rfl
  have hib := hm.ib rfl
  obtain ⟨A', c', rfl, _⟩ := Sl.of_own hoa
  obtain ⟨B', d', rfl, _⟩ := Sl.of_own hob
  have hlen : (l ++ [s]).length = n + 1 := by rw [List.length_append, hn]; rfl
  have hKlt : ∀ g, K g → g < U.heap.size := fun g hg => by obtain ⟨F, G, _, _, _, _, _, h6, _⟩ := h.ap; exact (h6 g hg).2.2
  have hGK : ∀ g, GP PB (.slice A n c) (.slice B n d) g → K g := by
    rintro g (rfl | hg | hg)
    · exact h.kPB
    · exact h.kA g (by rw [hn]; exact hg)
    · exact h.kB g (by rw [hn]; exact hg)
  have hT : Turn K U W := ⟨hm.turn.os.trans hUV.os, hm.turn.tape.trans hUV.tape, hm.turn.output.trans hUV.output, Nat.le_trans hUV.size hm.turn.size, fun k hk hK => (hm.turn.block k (Nat.lt_of_lt_of_le hk hUV.size) (fun hg => hK (hGK k hg))).trans (hUV.block k hk)⟩
  have hnewA : ∀ g, (Value.slice A' (n + 1) c').ownBlock = some g → New K U W g := fun g hg => by
    have hlt := (World.ownsRow.lt hoa g hg).2
    rcases hia with e | ⟨g', e, hg'⟩
    · exact .inl (h.kA g (by rw [hn, ← e]; exact hg))
    · rw [e] at hg; injection hg with hg; subst hg
      exact .inr ⟨Nat.le_trans hUV.size hg', hlt⟩
  have hnewB : ∀ g, (Value.slice B' (n + 1) d').ownBlock = some g → New K U W g := fun g hg => by
    have hlt := (World.ownsRow.lt hob g hg).2
    rcases hib with e | ⟨g', e, hg'⟩
    · exact .inl (h.kB g (by rw [hn, ← e]; exact hg))
    · rw [e] at hg; injection hg with hg; subst hg
      exact .inr ⟨Nat.le_trans hUV.size hg', hlt⟩
  have hlts : ∀ t ∈ l, ∀ ad, 0 < t.run.length → t.A = some ad ∨ t.B = some ad → ad.block < U.heap.size := fun t ht ad h0 e => by
    obtain ⟨k1, _⟩ := h.sp t ht
    rcases e with e | e
    · exact hKlt _ (k1.ka ad h0 e)
    · exact hKlt _ (k1.kb ad h0 e)
  have hsV : ∀ ad, 0 < s.run.length → s.A = some ad ∨ s.B = some ad → ad.block < V.heap.size := fun ad h0 e => by
    rcases e with e | e
    · exact hs1.lt ad h0 e
    · exact hs2.lt ad h0 e
  have hsG : ∀ ad, 0 < s.run.length → s.A = some ad ∨ s.B = some ad → ¬ GP PB (.slice A n c) (.slice B n d) ad.block := fun ad h0 e hg => by
    have := hKlt _ (hGK _ hg); have := hf ad h0 e; omega
  have hsame : ∀ ad, 0 < s.run.length → s.A = some ad ∨ s.B = some ad → W.heap[ad.block]? = V.heap[ad.block]? ∧ ad.block < W.heap.size := fun ad h0 e => ⟨hm.turn.block _ (hsV ad h0 e) (hsG ad h0 e), Nat.lt_of_lt_of_le (hsV ad h0 e) hm.turn.size⟩
  refine ⟨New K U W, A', c', B', d', ⟨h.ap.grow hT h.kge, h.ok, ?_, .inl h.kPB, by rw [hlen]; exact hpb, by rw [hlen, cas_app]; simpa [cas] using hoa, by rw [hlen, cbs_app]; simpa [cbs] using hob, by rw [hlen]; exact hnewA, by rw [hlen]; exact hnewB, ?_⟩, ?_⟩
  · rintro g (hg | hg)
    · exact h.kge g hg
    · have := h.ap.bel.size; omega
  · intro t ht
    rcases List.mem_append.1 ht with ht | ht
    · obtain ⟨k1, k2⟩ := h.sp t ht
      refine ⟨Sp.mem_keep k1 (fun _ h => .inl h) (fun ad h0 e => ?_), k2⟩
      have hlt := hlts t ht ad h0 e
      exact ⟨(hm.turn.block _ (Nat.lt_of_lt_of_le hlt hUV.size) (hA t ht ad h0 e)).trans (hUV.block _ hlt), Nat.lt_of_lt_of_le hlt (Nat.le_trans hUV.size hm.turn.size)⟩
    · cases List.mem_singleton.1 ht
      exact ⟨⟨hs1.keep' fun ad h0 e => hsame ad h0 (.inl e), hs2.keep' fun ad h0 e => hsame ad h0 (.inr e), fun ad h0 e => .inr ⟨hf ad h0 (.inl e), (hsame ad h0 (.inl e)).2⟩, fun ad h0 e => .inr ⟨hf ad h0 (.inr e), (hsame ad h0 (.inr e)).2⟩⟩, hof⟩
  · intro t ht ad h0 e
    have key : ad.block < V.heap.size ∧ ¬ GP PB (.slice A n c) (.slice B n d) ad.block := by
      rcases List.mem_append.1 ht with ht | ht
      · exact ⟨Nat.lt_of_lt_of_le (hlts t ht ad h0 e) hUV.size, hA t ht ad h0 e⟩
      · cases List.mem_singleton.1 ht
        exact ⟨hsV ad h0 e, hsG ad h0 e⟩
    rintro (hg | hg | hg)
    · exact key.2 (.inl hg)
    · rcases hia with e' | ⟨g', e', hg'⟩
      · exact key.2 (.inr (.inl (by rw [← e']; exact hg)))
      · rw [e'] at hg; injection hg with hg; have := key.1; omega
    · rcases hib with e' | ⟨g', e', hg'⟩
      · exact key.2 (.inr (.inr (by rw [← e']; exact hg)))
      · rw [e'] at hg; injection hg with hg; have := key.1; omega
end Go.Proofs.Ytnpmjljpaaaljaa.Clg
