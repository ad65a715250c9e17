/- A log and a book, and snapshots beside them: what BookOwn calls. -/
import Derived.Test.YtnpmjljpaaaljaaBookV
import Derived.Test.YtnpmjljpaaaljaaBookM
namespace Go.Proofs.Ytnpmjljpaaaljaa.Bok
open Go.ChangeMaps Go.MapKept Go.RowKit Go.Proofs.Ytnpmjljpaaaljaa.Nums Go.Proofs.Ytnpmjljpaaaljaa.Mem Go.Proofs.Ytnpmjljpaaaljaa.Clg
set_option linter.unusedVariables false
set_option linter.unusedSimpArgs false
set_option maxRecDepth 100000
set_option maxHeartbeats 1000000
def snO (s : Sn) : Obj := .cells #[.int .u64 (s.own : Int), .int .u64 (s.xmin : Int), .int .u64 (s.xmax : Int), .slice s.A s.run.length s.c] 48
/-- a snapshot, and the block that holds it, if one does -/
def SB (w : World) (K : Nat → Prop) (q : Option Nat × Sn) : Prop := SK w K q.2 q.2.run.length ∧ ∀ T, q.1 = some T → w.heap[T]? = some (snO q.2) ∧ K T
/-- the log, the book, the snapshots -/
def OJ (w0 w : World) (P B : Nat) (S : List Nat) (ts : List Tb) (xs : List Ix) (last : Nat) (l : List (Option Nat × Sn)) : Prop := ∃ K, J w0 w K P B S ts xs last ∧ ∀ q ∈ l, SB w K q
section
variable {w0 w w' : World} {K K' : Nat → Prop} {P B last last' n T own : Nat} {S S' : List Nat} {ts ts' : List Tb} {xs xs' : List Ix} {s : Sn} {name tn : ByteArray} {l : List (Option Nat × Sn)} {o : Option Nat}
theorem SB.keep {q : Option Nat × Sn} (h : SB w K q) (hk : KeepK K w w') (hs : w.heap.size ≤ w'.heap.size) (hK : ∀ g, K g → K' g) : SB w' K' q :=
  ⟨h.1.keep hk hs hK, fun T e => ⟨(hk T (h.2 T e).2).trans (h.2 T e).1, hK T (h.2 T e).2⟩⟩
theorem OJ.below (h : OJ w0 w P B S ts xs last l) (hb : Below w.heap.size w w') : OJ w0 w' P B S ts xs last l := by
  obtain ⟨K, hj, hl⟩ := h
  exact ⟨K, (hj.below hb).1, fun q hq => (hl q hq).keep (hj.below hb).2 hb.size fun _ h => h⟩
theorem OJ.bel (h : OJ w0 w P B S ts xs last l) : Below w0.heap.size w0 w := by obtain ⟨K, hj, hl⟩ := h; exact hj.bel
theorem OJ.new (h : J w0 w K P B S ts xs last) : OJ w0 w P B S ts xs last [] := ⟨K, h, fun q hq => by cases hq⟩
theorem OJ.cells (h : OJ w0 w P B S ts xs last l) (hs : (some T, s) ∈ l) : w.cell? ⟨T, 0, none⟩ = some (.int .u64 (s.own : Int)) ∧ w.cell? ⟨T, 1, none⟩ = some (.int .u64 (s.xmin : Int)) ∧ w.cell? ⟨T, 2, none⟩ = some (.int .u64 (s.xmax : Int)) ∧ w.cell? ⟨T, 3, none⟩ = some (.slice s.A s.run.length s.c) := by
  obtain ⟨K, hj, hl⟩ := h
  exact cells4 (((hl _ hs).2 T rfl).1)
theorem OJ.go (hl : ∀ q ∈ l, SB w K q) (hg : GoJ w0 w K P B S ts xs last w') : OJ w0 w' P B S ts xs last l :=
  ⟨K, hg.1, fun q hq => (hl q hq).keep hg.2.1 hg.2.2 fun _ h => h⟩
/-- a snapshot is put into a block -/
theorem OJ.box (h : OJ w0 w P B S ts xs last l) (hs : (o, s) ∈ l) : OJ w0 (w.alloc (snO s)) P B S ts xs last ((some w.heap.size, s) :: l) := by
  obtain ⟨K, hj, hl⟩ := h
  have hb : Below w.heap.size w (w.alloc (snO s)) := bel_alloc _ _
  obtain ⟨h1, h2⟩ := hj.newer hb
  refine ⟨_, h1, fun q hq => ?_⟩
  rcases List.mem_cons.1 hq with rfl | hq
  · exact ⟨(hl _ hs).1.keep h2 hb.size fun _ h => .inl h, fun T e => by
      injection e with e
      subst e
      exact ⟨Blk.new w _ _, .inr ⟨Nat.le_refl _, by rw [size_alloc]; omega⟩⟩⟩
  · exact (hl q hq).keep h2 hb.size fun _ h => .inl h
theorem o_begin (h : OJ w0 w P B S ts xs last l) (ht : 1 + S.length ≤ 1099511627776) : Calls Try.prog 25 #[.pointer (some ⟨P, 0, none⟩)] w fun e w' => e = .returned (.tuple #[.int .u64 ((1 + S.length : Nat) : Int), .int .i64 0]) ∧ OJ w0 w' P B (S ++ [1]) ts xs last l := by
  obtain ⟨K, hj, hl⟩ := h
  refine (j_begin hj ht).mono ?_
  rintro e w' ⟨rfl, hg⟩
  exact ⟨rfl, OJ.go hl hg⟩
theorem o_commit (h : OJ w0 w P B S ts xs last l) (x : Nat) : Calls Try.prog 27 #[.pointer (some ⟨P, 0, none⟩), .int .u64 (x : Int)] w fun e w' => e = .returned (.int .i64 (endE 1 S x)) ∧ OJ w0 w' P B (endS 1 S x 2) ts xs last l := by
  obtain ⟨K, hj, hl⟩ := h
  refine (j_commit hj x).mono ?_
  rintro e w' ⟨rfl, hg⟩
  exact ⟨rfl, OJ.go hl hg⟩
theorem o_abort (h : OJ w0 w P B S ts xs last l) {x : Nat} (hx : x < 18446744073709551616) : Calls Try.prog 26 #[.pointer (some ⟨P, 0, none⟩), .int .u64 (x : Int)] w fun e w' => e = .returned (.int .i64 (endE 1 S x)) ∧ OJ w0 w' P B (endS 1 S x 3) ts xs last l := by
  obtain ⟨K, hj, hl⟩ := h
  refine (j_abort hj hx).mono ?_
  rintro e w' ⟨rfl, hg⟩
  exact ⟨rfl, OJ.go hl hg⟩
theorem o_take (h : OJ w0 w P B S ts xs last l) {own : Nat} (ho : own < 18446744073709551616) : Calls Try.prog 29 #[.pointer (some ⟨P, 0, none⟩), .int .u64 (own : Int)] w fun e w' => ∃ A c, e = .returned (.agg #[.int .u64 (own : Int), .int .u64 (xminOf 1 S own : Int), .int .u64 ((1 + S.length : Nat) : Int), .slice A (runX 1 S own).length c]) ∧ OJ w0 w' P B S ts xs last ((none, snOf S own A c) :: l) := by
  obtain ⟨K, hj, hl⟩ := h
  refine (j_take hj ho).mono ?_
  rintro e w' ⟨A, c, rfl, h1, h2, h3, h4⟩
  refine ⟨A, c, rfl, _, h2, fun q hq => ?_⟩
  rcases List.mem_cons.1 hq with rfl | hq
  · exact ⟨h1, fun T e => by cases e⟩
  · exact (hl q hq).keep h3 h4.size fun _ h => .inl h
theorem o_ct (h : OJ w0 w P B S ts xs last l) (hs : (o, s) ∈ l) {d0 c0 : Nat} (hl1 : ts.length ≤ 1000) (hl2 : xs.length ≤ 1000) (hc : Col w d0 c0) (hn : name.size ≤ 1000) (hr : ctE 1 S s name ts xs = 0) (hlast : last ≤ 999999) :
    Calls Try.prog 34 #[.pointer (some ⟨B, 0, none⟩), .pointer (some ⟨P, 0, none⟩), .agg #[.int .u64 (s.own : Int), .int .u64 (s.xmin : Int), .int .u64 (s.xmax : Int), .slice s.A s.run.length s.c], .string name, .slice (some ⟨d0, 0, none⟩) 1 c0] w fun e w' => ∃ g d c, e = .returned (.tuple #[.int .u64 ((last + 1 : Nat) : Int), .int .i64 0]) ∧ OJ w0 w' P B S (ts ++ [⟨⟨g, last + 1, name, s.own, 0⟩, d, c⟩]) xs (last + 1) l := by
  obtain ⟨K, hj, hl⟩ := h
  refine (j_ct_yes hj (hl _ hs).1 hl1 hl2 hc hn hr hlast).mono ?_
  rintro e w' ⟨g, d, c, rfl, hg⟩
  exact ⟨g, d, c, rfl, OJ.go hl hg⟩
theorem o_ci (h : OJ w0 w P B S ts xs last l) (hs : (o, s) ∈ l) (hl1 : ts.length ≤ 1000) (hl2 : xs.length ≤ 15) {t : Tb} (hf : fnd 1 S s tn ts = some t) (hn : name.size ≤ 1000) (h1' : nameB name = true) (ht0 : takE 1 S s name (ens ts xs) = 0) (hlast : last ≤ 999999) :
    Calls Try.prog 39 #[.pointer (some ⟨B, 0, none⟩), .pointer (some ⟨P, 0, none⟩), .agg #[.int .u64 (s.own : Int), .int .u64 (s.xmin : Int), .int .u64 (s.xmax : Int), .slice s.A s.run.length s.c], .string name, .string tn, .string sA] w fun e w' => ∃ g, e = .returned (.tuple #[.agg #[.int .u64 ((last + 1 : Nat) : Int), .string name, .int .u64 (t.e.id : Int), .int .i64 0, .int .u64 (s.own : Int), .int .u64 0], .int .i64 0]) ∧ OJ w0 w' P B S ts (xs ++ [⟨⟨g, last + 1, name, s.own, 0⟩, t.e.id, 0⟩]) (last + 1) l := by
  obtain ⟨K, ⟨FL, F, hj⟩, hl⟩ := h
  refine (ci_yes hj.bf (hj.lk (hl _ hs).1) hl1 hl2 hf hn h1' ht0 (hl _ hs).1.o hlast).mono ?_
  rintro e w' ⟨g, rfl, hb, ht⟩
  obtain ⟨h1, h2⟩ := hj.book hb ht
  exact ⟨g, rfl, OJ.go hl ⟨h1, h2, ht.size⟩⟩
theorem o_tb (h : OJ w0 w P B S ts xs last l) (hs : (o, s) ∈ l) (hl1 : ts.length ≤ 1000) {r : Option Tb} (hf : fnd 1 S s name ts = r) :
    Calls Try.prog 40 #[.pointer (some ⟨B, 0, none⟩), .pointer (some ⟨P, 0, none⟩), .agg #[.int .u64 (s.own : Int), .int .u64 (s.xmin : Int), .int .u64 (s.xmax : Int), .slice s.A s.run.length s.c], .string name] w fun e w' => TbV (idO r) r.isSome e ∧ OJ w0 w' P B S ts xs last l := by
  have h' := h
  obtain ⟨K, ⟨FL, F, hj⟩, hl⟩ := h
  refine (table_b hj.bf (hj.lk (hl _ hs).1) hl1 name).mono ?_
  rintro e w' ⟨he, hb⟩
  rw [hf] at he
  exact ⟨he, h'.below hb⟩
theorem o_ix (h : OJ w0 w P B S ts xs last l) (hs : (o, s) ∈ l) (hl2 : xs.length ≤ 900) (hxt : ∀ x ∈ xs, x.t ≤ 1000000) {id m : Nat} (hid : id ≤ 1000000) (hm : ((ofX xs id).filter (vsX 1 S s)).length = m) :
    Calls Try.prog 41 #[.pointer (some ⟨B, 0, none⟩), .pointer (some ⟨P, 0, none⟩), .agg #[.int .u64 (s.own : Int), .int .u64 (s.xmin : Int), .int .u64 (s.xmax : Int), .slice s.A s.run.length s.c], .int .u64 (id : Int)] w fun e w' => ∃ A c, e = .returned (.slice A m c) ∧ OJ w0 w' P B S ts xs last l := by
  have h' := h
  obtain ⟨K, ⟨FL, F, hj⟩, hl⟩ := h
  refine (indexes_b hj.bf (hj.lk (hl _ hs).1) hl2 hxt hid).mono ?_
  rintro e w' ⟨A, c, rfl, _, hb⟩
  rw [hm]
  exact ⟨A, c, rfl, h'.below hb⟩
end
def sI : ByteArray := ⟨#[105]⟩
section
variable (A : Option Addr) (c c' g d g2 : Nat)
theorem ow_ct : ctE 1 [1, 1] (snOf [1, 1] 1 A c) sT [] [] = 0 := rfl
theorem ow_f1 : fnd 1 [1, 1] (snOf [1, 1] 1 A c) sT [⟨⟨g, 1, sT, 1, 0⟩, d, c'⟩] = some ⟨⟨g, 1, sT, 1, 0⟩, d, c'⟩ := rfl
theorem ow_f2 : fnd 1 [1, 1] (snOf [1, 1] 2 A c) sT [⟨⟨g, 1, sT, 1, 0⟩, d, c'⟩] = none := rfl
theorem ow_tk : takE 1 [1, 1] (snOf [1, 1] 1 A c) sI (ens [⟨⟨g, 1, sT, 1, 0⟩, d, c'⟩] []) = 0 := rfl
theorem ow_nm : nameB sI = true := rfl
theorem ow_f3 : fnd 1 [2, 1, 1] (snOf [1, 1] 2 A c) sT [⟨⟨g, 1, sT, 1, 0⟩, d, c'⟩] = none := rfl
theorem ow_f4 : fnd 1 [3, 1, 1] (snOf [1, 1] 2 A c) sT [⟨⟨g, 1, sT, 1, 0⟩, d, c'⟩] = none := rfl
theorem ow_f5 : fnd 1 [2, 1, 1] (snOf [2, 1, 1] 3 A c) sT [⟨⟨g, 1, sT, 1, 0⟩, d, c'⟩] = some ⟨⟨g, 1, sT, 1, 0⟩, d, c'⟩ := rfl
theorem ow_f6 : fnd 1 [3, 1, 1] (snOf [3, 1, 1] 3 A c) sT [⟨⟨g, 1, sT, 1, 0⟩, d, c'⟩] = none := rfl
theorem ow_x1 : ((ofX [⟨⟨g2, 2, sI, 1, 0⟩, 1, 0⟩] 1).filter (vsX 1 [2, 1, 1] (snOf [2, 1, 1] 3 A c))).length = 1 := rfl
theorem ow_x2 : ((ofX [⟨⟨g2, 2, sI, 1, 0⟩, 1, 0⟩] 1).filter (vsX 1 [2, 1, 1] (snOf [1, 1] 2 A c))).length = 0 := rfl
theorem ow_x3 : ((ofX [⟨⟨g2, 2, sI, 1, 0⟩, 1, 0⟩] 1).filter (vsX 1 [3, 1, 1] (snOf [3, 1, 1] 3 A c))).length = 0 := rfl
theorem ow_x4 : ((ofX [⟨⟨g2, 2, sI, 1, 0⟩, 1, 0⟩] 1).filter (vsX 1 [3, 1, 1] (snOf [1, 1] 2 A c))).length = 0 := rfl
theorem ow_x5 (S : List Nat) (s : Sn) : ((ofX [] 1).filter (vsX 1 S s)).length = 0 := rfl
end
end Go.Proofs.Ytnpmjljpaaaljaa.Bok
