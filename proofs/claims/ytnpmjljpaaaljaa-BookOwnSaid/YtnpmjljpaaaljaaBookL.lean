/- A log and a book side by side. -/
import Derived.Test.YtnpmjljpaaaljaaBookK
namespace Go.Proofs.Ytnpmjljpaaaljaa.Bok
open Go.ChangeMaps Go.MapKept Go.RowKit Go.Proofs.Ytnpmjljpaaaljaa.Nums Go.Proofs.Ytnpmjljpaaaljaa.Mem Go.Proofs.Ytnpmjljpaaaljaa.Clg
set_option linter.unusedVariables false
set_option linter.unusedSimpArgs false
set_option maxRecDepth 100000
set_option maxHeartbeats 1000000
/-- the log at P, the book at B, all newer than w0; the blocks K beside them stay -/
structure JB (w0 w : World) (K FL F : Nat → Prop) (P B : Nat) (S : List Nat) (ts : List Tb) (xs : List Ix) (last : Nat) : Prop where
  lf : LF w FL P 1 S
  bf : BF w F B ts xs last
  dis : ∀ g, FL g → ¬ F g
  nL : ∀ g, FL g → w0.heap.size ≤ g
  nB : ∀ g, F g → w0.heap.size ≤ g
  kK : ∀ g, K g → ¬ FL g ∧ ¬ F g ∧ g < w.heap.size
  bel : Below w0.heap.size w0 w
  ok : ∀ t ∈ S, 1 ≤ t ∧ t ≤ 3
def J (w0 w : World) (K : Nat → Prop) (P B : Nat) (S : List Nat) (ts : List Tb) (xs : List Ix) (last : Nat) : Prop := ∃ FL F, JB w0 w K FL F P B S ts xs last
/-- a snapshot in memory -/
structure SK (w : World) (K : Nat → Prop) (s : Sn) (n : Nat) : Prop where
  sl : SlU w s.A s.c s.run
  n : s.run.length = n
  k : ∀ ad, 0 < s.run.length → s.A = some ad → K ad.block ∧ ad.block < w.heap.size
  o : s.own < 18446744073709551616
theorem SK.keep {w w' : World} {K K' : Nat → Prop} {s : Sn} {n : Nat} (h : SK w K s n) (hk : KeepK K w w') (hs : w.heap.size ≤ w'.heap.size) (hK : ∀ g, K g → K' g) : SK w' K' s n :=
  ⟨h.sl.keep' fun ad h0 e => ⟨hk _ (h.k ad h0 e).1, Nat.lt_of_lt_of_le (h.k ad h0 e).2 hs⟩, h.n, fun ad h0 e => ⟨hK _ (h.k ad h0 e).1, Nat.lt_of_lt_of_le (h.k ad h0 e).2 hs⟩, h.o⟩
theorem keep_below {w w' : World} {K : Nat → Prop} (hb : Below w.heap.size w w') (hK : ∀ g, K g → g < w.heap.size) : KeepK K w w' := fun g hg => hb.block g (hK g hg)
section
variable {w0 w w' : World} {K FL F : Nat → Prop} {P B last n : Nat} {S S' : List Nat} {ts : List Tb} {xs : List Ix} {s : Sn} {name : ByteArray}
theorem J.bel (h : J w0 w K P B S ts xs last) : Below w0.heap.size w0 w := by obtain ⟨FL, F, h⟩ := h; exact h.bel
theorem J.lt (h : J w0 w K P B S ts xs last) : ∀ g, K g → g < w.heap.size := by obtain ⟨FL, F, h⟩ := h; exact fun g hg => (h.kK g hg).2.2
theorem JB.lk (h : JB w0 w K FL F P B S ts xs last) (k : SK w K s n) : Lk w FL P 1 S s n := ⟨h.lf, h.ok, k.sl, k.n⟩
theorem J.below (h : J w0 w K P B S ts xs last) (hb : Below w.heap.size w w') : J w0 w' K P B S ts xs last ∧ KeepK K w w' := by
  obtain ⟨FL, F, h⟩ := h
  exact ⟨⟨FL, F, h.lf.below hb, h.bf.below hb, h.dis, h.nL, h.nB, fun g hg => ⟨(h.kK g hg).1, (h.kK g hg).2.1, Nat.lt_of_lt_of_le (h.kK g hg).2.2 hb.size⟩, h.bel.trans (hb.mono h.bel.size), h.ok⟩, keep_below hb fun g hg => (h.kK g hg).2.2⟩
/-- what is new is kept, too -/
theorem J.newer (h : J w0 w K P B S ts xs last) (hb : Below w.heap.size w w') : J w0 w' (New K w w') P B S ts xs last ∧ KeepK K w w' := by
  obtain ⟨h1, h2⟩ := h.below hb
  obtain ⟨FL, F, h⟩ := h
  refine ⟨⟨FL, F, h.lf.below hb, h.bf.below hb, h.dis, h.nL, h.nB, fun g hg => ?_, h1.bel, h.ok⟩, h2⟩
  rcases hg with hg | hg
  · exact ⟨(h.kK g hg).1, (h.kK g hg).2.1, Nat.lt_of_lt_of_le (h.kK g hg).2.2 hb.size⟩
  · exact ⟨fun k => by have := h.lf.lt g k; omega, fun k => by have := h.bf.lt g k; omega, hg.2⟩
theorem J.less {K' : Nat → Prop} (h : J w0 w K P B S ts xs last) (hK : ∀ g, K' g → K g) : J w0 w K' P B S ts xs last := by
  obtain ⟨FL, F, h⟩ := h
  exact ⟨FL, F, h.lf, h.bf, h.dis, h.nL, h.nB, fun g hg => h.kK g (hK g hg), h.bel, h.ok⟩
theorem JB.log (h : JB w0 w K FL F P B S ts xs last) (hg : Goes w FL P 1 S' w') (hok : ∀ t ∈ S', 1 ≤ t ∧ t ≤ 3) : J w0 w' K P B S' ts xs last ∧ KeepK K w w' := by
  refine ⟨⟨New FL w w', F, hg.1, h.bf.turn hg.2 (fun g hF hL => h.dis g hL hF), fun g hL hF => ?_, fun g hL => ?_, h.nB, fun g hk => ⟨fun hL => ?_, (h.kK g hk).2.1, Nat.lt_of_lt_of_le (h.kK g hk).2.2 hg.2.size⟩, h.bel.trans (hg.2.below h.bel.size h.nL), hok⟩, fun g hk => hg.2.block g (h.kK g hk).2.2 (h.kK g hk).1⟩
  · rcases hL with hL | hL
    · exact h.dis g hL hF
    · have := h.bf.lt g hF; omega
  · rcases hL with hL | hL
    · exact h.nL g hL
    · have := h.bel.size; omega
  · rcases hL with hL | hL
    · exact (h.kK g hk).1 hL
    · have := (h.kK g hk).2.2; omega
theorem JB.book {ts' : List Tb} {xs' : List Ix} {last' : Nat} (h : JB w0 w K FL F P B S ts xs last) (hb : BF w' (New F w w') B ts' xs' last') (ht : Turn F w w') : J w0 w' K P B S ts' xs' last' ∧ KeepK K w w' := by
  refine ⟨⟨FL, New F w w', h.lf.turn ht (fun g hL hF => h.dis g hL hF), hb, fun g hL hF => ?_, h.nL, fun g hF => ?_, fun g hk => ⟨(h.kK g hk).1, fun hF => ?_, Nat.lt_of_lt_of_le (h.kK g hk).2.2 ht.size⟩, h.bel.trans (ht.below h.bel.size h.nB), h.ok⟩, fun g hk => ht.block g (h.kK g hk).2.2 (h.kK g hk).2.1⟩
  · rcases hF with hF | hF
    · exact h.dis g hL hF
    · have := h.lf.lt g hL; omega
  · rcases hF with hF | hF
    · exact h.nB g hF
    · have := h.bel.size; omega
  · rcases hF with hF | hF
    · exact (h.kK g hk).2.1 hF
    · have := (h.kK g hk).2.2; omega
/-- goes on: the state, and what is kept -/
def GoJ (w0 w : World) (K : Nat → Prop) (P B : Nat) (S : List Nat) (ts : List Tb) (xs : List Ix) (last : Nat) (w' : World) : Prop := J w0 w' K P B S ts xs last ∧ KeepK K w w' ∧ w.heap.size ≤ w'.heap.size
theorem j_begin (h : J w0 w K P B S ts xs last) (ht : 1 + S.length ≤ 1099511627776) : Calls Try.prog 25 #[.pointer (some ⟨P, 0, none⟩)] w fun e w' => e = .returned (.tuple #[.int .u64 ((1 + S.length : Nat) : Int), .int .i64 0]) ∧ GoJ w0 w K P B (S ++ [1]) ts xs last w' := by
  obtain ⟨FL, F, h⟩ := h
  refine (begin_any h.lf ht).mono ?_
  rintro e w' ⟨rfl, hg⟩
  obtain ⟨h1, h2⟩ := h.log hg (fun t ht => by rw [List.mem_append, List.mem_singleton] at ht; rcases ht with ht | rfl; exact h.ok t ht; omega)
  exact ⟨rfl, h1, h2, hg.2.size⟩
theorem j_commit (h : J w0 w K P B S ts xs last) (x : Nat) : Calls Try.prog 27 #[.pointer (some ⟨P, 0, none⟩), .int .u64 (x : Int)] w fun e w' => e = .returned (.int .i64 (endE 1 S x)) ∧ GoJ w0 w K P B (endS 1 S x 2) ts xs last w' := by
  obtain ⟨FL, F, h⟩ := h
  refine (commit_any h.lf x).mono ?_
  rintro e w' ⟨rfl, hg⟩
  obtain ⟨h1, h2⟩ := h.log hg (st_ok_end h.ok 1 x (by omega))
  exact ⟨rfl, h1, h2, hg.2.size⟩
theorem j_abort (h : J w0 w K P B S ts xs last) {x : Nat} (hx : x < 18446744073709551616) : Calls Try.prog 26 #[.pointer (some ⟨P, 0, none⟩), .int .u64 (x : Int)] w fun e w' => e = .returned (.int .i64 (endE 1 S x)) ∧ GoJ w0 w K P B (endS 1 S x 3) ts xs last w' := by
  obtain ⟨FL, F, h⟩ := h
  refine (abort_any h.lf hx).mono ?_
  rintro e w' ⟨rfl, hg⟩
  obtain ⟨h1, h2⟩ := h.log hg (st_ok_end h.ok 1 x (by omega))
  exact ⟨rfl, h1, h2, hg.2.size⟩
/-- the snapshot that is taken -/
def snOf (S : List Nat) (own : Nat) (A : Option Addr) (c : Nat) : Sn := ⟨own, xminOf 1 S own, 1 + S.length, runX 1 S own, A, c⟩
theorem j_take (h : J w0 w K P B S ts xs last) {own : Nat} (ho : own < 18446744073709551616) : Calls Try.prog 29 #[.pointer (some ⟨P, 0, none⟩), .int .u64 (own : Int)] w fun e w' => ∃ A c, e = .returned (.agg #[.int .u64 (own : Int), .int .u64 (xminOf 1 S own : Int), .int .u64 ((1 + S.length : Nat) : Int), .slice A (runX 1 S own).length c]) ∧ SK w' (New K w w') (snOf S own A c) (runX 1 S own).length ∧ J w0 w' (New K w w') P B S ts xs last ∧ KeepK K w w' ∧ Below w.heap.size w w' := by
  have h' := h
  obtain ⟨FL, F, h⟩ := h
  refine (take_any h.lf own).mono ?_
  rintro e w' ⟨A, c, rfl, h1, h2, h3⟩
  obtain ⟨h4, h5⟩ := h'.newer h3
  refine ⟨A, c, rfl, ⟨h1, rfl, fun ad h0 e => ?_, ho⟩, h4, h5, h3⟩
  obtain ⟨ad', e2, hat⟩ := h1.at_ (k := 0) (x := (runX 1 S own)[0]'h0) (List.getElem?_eq_getElem h0)
  have e3 : A = some ad := e
  rw [e3] at e2
  injection e2 with e2
  subst e2
  have hlt : ad.block < w'.heap.size := by
    have hh : (ad.add 0).block = ad.block := add_block ad 0
    have : ∃ o, w'.heap[(ad.add 0).block]? = some o := by
      unfold World.cell? at hat
      cases hq : w'.heap[(ad.add 0).block]? with
      | none => rw [hq] at hat; simp at hat
      | some o => exact ⟨o, rfl⟩
    obtain ⟨o, hq⟩ := this
    rw [hh] at hq
    exact (Array.getElem?_eq_some_iff.1 hq).1
  exact ⟨.inr ⟨h2 ad h0 e3, hlt⟩, hlt⟩
theorem j_ct_no (h : J w0 w K P B S ts xs last) (k : SK w K s n) {d0 c0 : Nat} (hl : ts.length ≤ 1000) (hl2 : xs.length ≤ 1000) (hc : Col w d0 c0) (hn : name.size ≤ 1000) {r : Int} (hr : ctE 1 S s name ts xs = r) (hr0 : r ≠ 0) :
    Calls Try.prog 34 #[.pointer (some ⟨B, 0, none⟩), .pointer (some ⟨P, 0, none⟩), .agg #[.int .u64 (s.own : Int), .int .u64 (s.xmin : Int), .int .u64 (s.xmax : Int), .slice s.A n s.c], .string name, .slice (some ⟨d0, 0, none⟩) 1 c0] w fun e w' => e = .returned (.tuple #[.int .u64 0, .int .i64 r]) ∧ GoJ w0 w K P B S ts xs last w' := by
  have h' := h
  obtain ⟨FL, F, h⟩ := h
  refine (ct_no h.bf (h.lk k) hl hl2 hc hn hr hr0).mono ?_
  rintro e w' ⟨rfl, hb⟩
  exact ⟨rfl, (h'.below hb).1, (h'.below hb).2, hb.size⟩
theorem j_ct_yes (h : J w0 w K P B S ts xs last) (k : SK w K s n) {d0 c0 : Nat} (hl : ts.length ≤ 1000) (hl2 : xs.length ≤ 1000) (hc : Col w d0 c0) (hn : name.size ≤ 1000) (hr : ctE 1 S s name ts xs = 0) (hlast : last ≤ 999999) :
    Calls Try.prog 34 #[.pointer (some ⟨B, 0, none⟩), .pointer (some ⟨P, 0, none⟩), .agg #[.int .u64 (s.own : Int), .int .u64 (s.xmin : Int), .int .u64 (s.xmax : Int), .slice s.A n s.c], .string name, .slice (some ⟨d0, 0, none⟩) 1 c0] w fun e w' => ∃ g d c, e = .returned (.tuple #[.int .u64 ((last + 1 : Nat) : Int), .int .i64 0]) ∧ GoJ w0 w K P B S (ts ++ [⟨⟨g, last + 1, name, s.own, 0⟩, d, c⟩]) xs (last + 1) w' := by
  obtain ⟨FL, F, h⟩ := h
  refine (ct_yes h.bf (h.lk k) hl hl2 hc hn hr k.o hlast).mono ?_
  rintro e w' ⟨g, d, c, rfl, hb, ht⟩
  obtain ⟨h1, h2⟩ := h.book hb ht
  exact ⟨g, d, c, rfl, h1, h2, ht.size⟩
/-- a log that is there, and a book from nothing -/
theorem j_new1 {P : Nat} {F1 : Nat → Prop} (hl : LF w F1 P 1 S) (h1 : ∀ g, F1 g → w0.heap.size ≤ g) (hb0 : Below w0.heap.size w0 w) (hok : ∀ t ∈ S, 1 ≤ t ∧ t ≤ 3) : Calls Try.prog 33 #[] w fun e w' => ∃ B, e = .returned (.pointer (some ⟨B, 0, none⟩)) ∧ J w0 w' No P B S [] [] 0 ∧ w.heap.size ≤ w'.heap.size := by
  refine (new_b w).mono ?_
  rintro e w' ⟨rfl, hb, hbe⟩
  exact ⟨_, rfl, ⟨F1, _, hl.below hbe, hb, fun g hF e => by have := hl.lt g hF; omega, h1, fun g e => by rw [e]; exact hb0.size, fun g hg => hg.elim, hb0.trans (hbe.mono hb0.size), hok⟩, hbe.size⟩
/-- a log and a book from nothing -/
theorem j_new {P : Nat} {F1 : Nat → Prop} (hl : LF w F1 P 1 []) (h1 : ∀ g, F1 g → w0.heap.size ≤ g) (hb0 : Below w0.heap.size w0 w) : Calls Try.prog 33 #[] w fun e w' => ∃ B, e = .returned (.pointer (some ⟨B, 0, none⟩)) ∧ J w0 w' No P B [] [] [] 0 ∧ w.heap.size ≤ w'.heap.size := by
  refine (new_b w).mono ?_
  rintro e w' ⟨rfl, hb, hbe⟩
  exact ⟨_, rfl, ⟨F1, _, hl.below hbe, hb, fun g hF e => by have := hl.lt g hF; omega, h1, fun g e => by rw [e]; exact hb0.size, fun g hg => hg.elim, hb0.trans (hbe.mono hb0.size), fun t ht => by simp at ht⟩, hbe.size⟩
end
end Go.Proofs.Ytnpmjljpaaaljaa.Bok
