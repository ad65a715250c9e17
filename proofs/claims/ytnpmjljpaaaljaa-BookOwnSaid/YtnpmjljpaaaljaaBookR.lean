/- A log and a book: DropTable; snapshots in a slice. -/
import Derived.Test.YtnpmjljpaaaljaaBookL
import Derived.Test.YtnpmjljpaaaljaaBookQ
namespace Go.Proofs.Ytnpmjljpaaaljaa.Bok
open Go.ChangeMaps Go.MapKept Go.RowKit Go.Proofs.Ytnpmjljpaaaljaa.Nums Go.Proofs.Ytnpmjljpaaaljaa.Mem Go.Proofs.Ytnpmjljpaaaljaa.Clg
set_option linter.unusedVariables false
set_option linter.unusedSimpArgs false
set_option maxRecDepth 100000
set_option maxHeartbeats 1000000
section
variable {w0 w w' : World} {K K' X FL F G : Nat → Prop} {P B last n : Nat} {S S' : List Nat} {ts ts' : List Tb} {xs xs' : List Ix} {s : Sn} {name : ByteArray}
theorem BF.more (h : BF w F B ts xs last) (hG : ∀ g, F g → G g) (hl : ∀ g, G g → g < w.heap.size) : BF w G B ts xs last := by
  obtain ⟨A1, c1, A2, c2, h⟩ := h
  exact ⟨A1, c1, A2, c2, h.blk, h.ownT, h.ownX, h.tb, h.ix, h.apT, h.apX, hG _ h.fB, fun g hg => hG g (h.f1 g hg), fun g hg => hG g (h.f2 g hg), fun i t ht => ⟨hG _ (h.fT i t ht).1, hG _ (h.fT i t ht).2⟩, fun i x hx => hG _ (h.fX i x hx), hl, h.top⟩
theorem j_dt_none (h : J w0 w K P B S ts xs last) (k : SK w K s n) (hl : ts.length ≤ 1000) (hf : fnd 1 S s name ts = none) :
    Calls Try.prog 38 #[.pointer (some ⟨B, 0, none⟩), .pointer (some ⟨P, 0, none⟩), .agg #[.int .u64 (s.own : Int), .int .u64 (s.xmin : Int), .int .u64 (s.xmax : Int), .slice s.A n s.c], .string name] w fun e w' => e = .returned (.tuple #[.int .u64 0, .int .i64 6]) ∧ GoJ w0 w K P B S ts xs last w' := by
  have h' := h
  obtain ⟨FL, F, h⟩ := h
  refine (dt_none h.bf (h.lk k) hl hf).mono ?_
  rintro e w' ⟨rfl, hb⟩
  exact ⟨rfl, (h'.below hb).1, (h'.below hb).2, hb.size⟩
/-- a table is ended, or nothing is -/
def JdP (w0 w : World) (K : Nat → Prop) (P B : Nat) (S : List Nat) (ts : List Tb) (xs : List Ix) (last : Nat) (s : Sn) (t : Tb) (e : Ending) (w' : World) : Prop :=
  ((∃ x ∈ goL 1 S s t xs, frB 1 S s x = false) ∧ e = .returned (.tuple #[.int .u64 0, .int .i64 11]) ∧ GoJ w0 w K P B S ts xs last w') ∨ ((∀ x ∈ goL 1 S s t xs, frB 1 S s x = true) ∧ e = .returned (.tuple #[.int .u64 (t.e.id : Int), .int .i64 0]) ∧ GoJ w0 w K P B S (stTs s.own (gsE (goL 1 S s t xs)) ts) (stXs s.own (gsE (goL 1 S s t xs)) xs) last w')
theorem j_dt_some (h : J w0 w K P B S ts xs last) (k : SK w K s n) (hl : ts.length ≤ 1000) (hl2 : xs.length ≤ 900) (hxt : ∀ x ∈ xs, x.t ≤ 1000000) {t : Tb} (hf : fnd 1 S s name ts = some t) :
    Calls Try.prog 38 #[.pointer (some ⟨B, 0, none⟩), .pointer (some ⟨P, 0, none⟩), .agg #[.int .u64 (s.own : Int), .int .u64 (s.xmin : Int), .int .u64 (s.xmax : Int), .slice s.A n s.c], .string name] w (JdP w0 w K P B S ts xs last s t) := by
  have h' := h
  obtain ⟨FL, F, h⟩ := h
  refine (dt_some h.bf (h.lk k) hl hl2 hxt hf k.o).mono ?_
  rintro e w' (⟨hx, rfl, hb⟩ | ⟨hx, rfl, hb, ht⟩)
  · exact .inl ⟨hx, rfl, (h'.below hb).1, (h'.below hb).2, hb.size⟩
  · obtain ⟨h1, h2⟩ := h.book (hb.more (fun g hg => .inl hg) (fun g hg => hg.elim (fun q => Nat.lt_of_lt_of_le (h.bf.lt g q) ht.size) (fun q => q.2))) ht
    exact .inr ⟨hx, rfl, h1, h2, ht.size⟩
/-- some of what is kept is turned, and there is new -/
theorem J.kin (h : J w0 w K P B S ts xs last) (ht : Turn X w w') (hX : ∀ g, X g → K g) (hX0 : ∀ g, X g → w0.heap.size ≤ g) (hK' : ∀ g, K' g → K g ∨ (w.heap.size ≤ g ∧ g < w'.heap.size)) : J w0 w' K' P B S ts xs last := by
  obtain ⟨FL, F, h⟩ := h
  refine ⟨FL, F, h.lf.turn ht (fun g hg hx => (h.kK g (hX g hx)).1 hg), h.bf.turn ht (fun g hg hx => (h.kK g (hX g hx)).2.1 hg), h.dis, h.nL, h.nB, fun g hg => ?_, h.bel.trans (ht.below h.bel.size hX0), h.ok⟩
  rcases hK' g hg with hk | hk
  · exact ⟨(h.kK g hk).1, (h.kK g hk).2.1, Nat.lt_of_lt_of_le (h.kK g hk).2.2 ht.size⟩
  · exact ⟨fun q => by have := h.lf.lt g q; omega, fun q => by have := h.bf.lt g q; omega, hk.2⟩
theorem SK.more (h : SK w K s n) (hK : ∀ g, K g → K' g) : SK w K' s n := ⟨h.sl, h.n, fun ad h0 e => ⟨hK _ (h.k ad h0 e).1, (h.k ad h0 e).2⟩, h.o⟩
/-- what is new from w to w' -/
def Nw (w w' : World) (g : Nat) : Prop := w.heap.size ≤ g ∧ g < w'.heap.size
theorem j_take2 (h : J w0 w K P B S ts xs last) {own : Nat} (ho : own < 18446744073709551616) : Calls Try.prog 29 #[.pointer (some ⟨P, 0, none⟩), .int .u64 (own : Int)] w fun e w' => ∃ A c, e = .returned (.agg #[.int .u64 (own : Int), .int .u64 (xminOf 1 S own : Int), .int .u64 ((1 + S.length : Nat) : Int), .slice A (runX 1 S own).length c]) ∧ SK w' (Nw w w') (snOf S own A c) (runX 1 S own).length ∧ Below w.heap.size w w' := by
  obtain ⟨FL, F, h⟩ := h
  refine (take_any h.lf own).mono ?_
  rintro e w' ⟨A, c, rfl, h1, h2, h3⟩
  refine ⟨A, c, rfl, ⟨h1, rfl, fun ad h0 e => ?_, ho⟩, h3⟩
  obtain ⟨ad', e2, hat⟩ := h1.at_ (k := 0) (x := (runX 1 S own)[0]'h0) (List.getElem?_eq_getElem h0)
  have e3 : A = some ad := e
  rw [e3] at e2
  injection e2 with e2
  subst e2
  have hlt : ad.block < w'.heap.size := by
    have hh : (ad.add 0).block = ad.block := add_block ad 0
    have : ∃ o, w'.heap[(ad.add 0).block]? = some o := by
      unfold World.cell? at hat
      cases hq : w'.heap[(ad.add 0).block]? with
      | none => rw [hq] at hat; simp at hat
      | some o => exact ⟨o, rfl⟩
    obtain ⟨o, hq⟩ := this
    rw [hh] at hq
    exact (Array.getElem?_eq_some_iff.1 hq).1
  exact ⟨⟨h2 ad h0 e3, hlt⟩, hlt⟩
end
def svOf (s : Sn) : Sv := ⟨s.own, s.xmin, s.xmax, s.A, s.run.length, s.c⟩
/-- what is kept: snapshots' runs, and the snapshots' own array -/
def KA (Ks : Nat → Prop) (A : Option Addr) (n c : Nat) (g : Nat) : Prop := Ks g ∨ (Value.slice A n c).ownBlock = some g
structure LS (w0 w : World) (Ks : Nat → Prop) (P B : Nat) (S : List Nat) (ts : List Tb) (xs : List Ix) (last : Nat) (A : Option Addr) (m c : Nat) (ss : List Sn) : Prop where
  j : J w0 w (KA Ks A m c) P B S ts xs last
  own : OwnS w w0.heap.size (.slice A m c) m (svs (ss.map svOf))
  len : ss.length = m
  ofr : ∀ g, (Value.slice A m c).ownBlock = some g → ¬ Ks g
  sk : ∀ s ∈ ss, SK w Ks s s.run.length
section
variable {w0 w w' w1 w2 : World} {Ks : Nat → Prop} {P B last m c : Nat} {S S' : List Nat} {ts ts' : List Tb} {xs xs' : List Ix} {A : Option Addr} {ss : List Sn} {last' : Nat}
theorem LS.go (h : LS w0 w Ks P B S ts xs last A m c ss) (hg : GoJ w0 w (KA Ks A m c) P B S' ts' xs' last' w') : LS w0 w' Ks P B S' ts' xs' last' A m c ss :=
  ⟨hg.1, own_keep h.own fun g hk => hg.2.1 g (.inr hk), h.len, h.ofr, fun s hs => (h.sk s hs).keep (fun g hk => hg.2.1 g (.inl hk)) hg.2.2 (fun _ h => h)⟩
theorem LS.below (h : LS w0 w Ks P B S ts xs last A m c ss) (hb : Below w.heap.size w w') : LS w0 w' Ks P B S ts xs last A m c ss :=
  h.go ⟨(h.j.below hb).1, (h.j.below hb).2, hb.size⟩
/-- one snapshot more -/
theorem LS.app (h : LS w0 w Ks P B S ts xs last A m c ss) {s : Sn} (hb : Below w.heap.size w w1) (hs : SK w1 (Nw w w1) s s.run.length) {A' : Option Addr} {c' : Nat}
    (hown : OwnS w2 w0.heap.size (.slice A' (m + 1) c') (m + 1) (svs (ss.map svOf) ++ (svOf s).cells)) {o : Obj} (hk : Kin (w1.alloc o) w2 (.slice A m c) (.slice A' (m + 1) c')) : LS w0 w2 (New Ks w w1) P B S ts xs last A' (m + 1) c' (ss ++ [s]) := by
  have hof : ∀ g, (Value.slice A m c).ownBlock = some g → w0.heap.size ≤ g ∧ g < w.heap.size := fun g hg => World.ownsRow.lt h.own g hg
  have hsz : w1.heap.size + 1 ≤ w2.heap.size := by have := hk.size; rw [size_alloc] at this; exact this
  have hw1 := hb.size
  have ht : Turn (fun g => (Value.slice A m c).ownBlock = some g) w w2 := Turn.trans (Turn.of_below hb) ((Turn.of_below (bel_alloc w1 o)).kin hk (fun g hg => .inl hg))
  have hKs : ∀ g, Ks g → g < w.heap.size := fun g hg => h.j.lt g (.inl hg)
  have keep1 : KeepK Ks w w2 := fun g hg => ht.block g (hKs g hg) (fun e => h.ofr g e hg)
  have keep2 : KeepK (Nw w w1) w1 w2 := fun g hg => by
    have h1 : (w1.alloc o).heap[g]? = w1.heap[g]? := (bel_alloc w1 o).block g hg.2
    rw [← h1]
    exact hk.1.block g (by rw [size_alloc]; have := hg.2; omega) (fun e => by have := (hof g e.symm).2; have := hg.1; omega)
  refine ⟨h.j.kin ht (fun g hg => .inr hg) (fun g hg => (hof g hg).1) (fun g hg => ?_), ?_, by rw [List.length_append, h.len]; rfl, fun g hg hn => ?_, fun x hx => ?_⟩
  · rcases hg with (hg | hg) | hg
    · exact .inl (.inl hg)
    · exact .inr ⟨hg.1, by omega⟩
    · rcases hk.2 with e | ⟨g', e, hg'⟩
      · exact .inl (.inr (by rw [← e]; exact hg))
      · rw [hg] at e
        injection e with e
        subst e
        rw [size_alloc] at hg'
        exact .inr ⟨by omega, (World.ownsRow.lt hown g hg).2⟩
  · rw [List.map_append, svs_app]
    have e : svs ([s].map svOf) = (svOf s).cells := by simp [svs]
    rw [e]
    exact hown
  · rcases hk.2 with e | ⟨g', e, hg'⟩
    · have h1 := hof g (by rw [← e]; exact hg)
      rcases hn with hn | hn
      · exact h.ofr g (by rw [← e]; exact hg) hn
      · have := hn.1; omega
    · rw [hg] at e
      injection e with e
      subst e
      rw [size_alloc] at hg'
      rcases hn with hn | hn
      · have := hKs g hn; omega
      · have := hn.2; omega
  · rw [List.mem_append, List.mem_singleton] at hx
    rcases hx with hx | rfl
    · exact (h.sk x hx).keep keep1 ht.size (fun g hg => .inl hg)
    · exact hs.keep keep2 (by omega) (fun g hg => .inr hg)
theorem LS.at_ (h : LS w0 w Ks P B S ts xs last A m c ss) {k : Nat} {s : Sn} (hs : ss[k]? = some s) : ∃ d, A = some ⟨d, 0, none⟩ ∧ w.cell? ⟨d, k * 4, none⟩ = some (.int .u64 (s.own : Int)) ∧ w.cell? ⟨d, k * 4 + 1, none⟩ = some (.int .u64 (s.xmin : Int)) ∧ w.cell? ⟨d, k * 4 + 2, none⟩ = some (.int .u64 (s.xmax : Int)) ∧ w.cell? ⟨d, k * 4 + 3, none⟩ = some (.slice s.A s.run.length s.c) := by
  have hk := (List.getElem?_eq_some_iff.1 hs).1
  rcases h.own.2 with ⟨h1, h2⟩ | ⟨d, cap, cur, hv, hb, hg, hnc, hm, hsz, ht⟩
  · exact absurd h2 (by have := h.len; omega)
  · injection hv with h1 h2 h3
    subst h1 h3
    have hc := World.ownsRow.cells h.own (g := d) rfl
    have hat := svs_at (ss.map svOf) k (svOf s) (by rw [List.getElem?_map, hs]; rfl)
    refine ⟨d, rfl, ?_, ?_, ?_, ?_⟩
    · have := hc (k * 4) _ ((hat 0 (by omega)).trans rfl); rwa [add_flat] at this
    · have := hc (k * 4 + 1) _ ((hat 1 (by omega)).trans rfl); rwa [add_flat] at this
    · have := hc (k * 4 + 2) _ ((hat 2 (by omega)).trans rfl); rwa [add_flat] at this
    · have := hc (k * 4 + 3) _ ((hat 3 (by omega)).trans rfl); rwa [add_flat] at this
end
end Go.Proofs.Ytnpmjljpaaaljaa.Bok
