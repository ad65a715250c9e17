/- book.entry: its methods. -/
import Derived.Test.YtnpmjljpaaaljaaSnapY
import Derived.Test.YtnpmjljpaaaljaaBookA
namespace Go.Proofs.Ytnpmjljpaaaljaa.Bok
open Go.ChangeMaps Go.MapKept Go.RowKit Go.Proofs.Ytnpmjljpaaaljaa.Nums Go.Proofs.Ytnpmjljpaaaljaa.Mem Go.Proofs.Ytnpmjljpaaaljaa.Clg
set_option linter.unusedVariables false
set_option linter.unusedSimpArgs false
set_option maxRecDepth 100000
set_option maxHeartbeats 1000000
/-- an entry at g: its ID, its name, who made it, who dropped it -/
structure EA (w : World) (g id : Nat) (nm : ByteArray) (a b : Nat) : Prop where
  c0 : w.cell? ⟨g, 0, none⟩ = some (.int .u64 (id : Int))
  c1 : w.cell? ⟨g, 1, none⟩ = some (.string nm)
  c2 : w.cell? ⟨g, 2, none⟩ = some (.int .u64 (a : Int))
  c3 : w.cell? ⟨g, 3, none⟩ = some (.int .u64 (b : Int))
  lt : g < w.heap.size
  ha : a < 18446744073709551616
  hb : b < 18446744073709551616
theorem bel_dr {B : Nat} {w w' : World} (h : Below B w w') : Below B w w'.drew := ⟨h.os, h.tape, h.output, h.size, h.block⟩
theorem bel_drew (w : World) : Below w.heap.size w w.drew := ⟨rfl, rfl, rfl, Nat.le_refl _, fun _ _ => rfl⟩
section
variable {w w' : World} {g id a b : Nat} {nm : ByteArray}
theorem EA.below (h : EA w g id nm a b) (hb : Below w.heap.size w w') : EA w' g id nm a b :=
  ⟨(hb.cell (p := ⟨g, 0, none⟩) h.lt).trans h.c0, (hb.cell (p := ⟨g, 1, none⟩) h.lt).trans h.c1, (hb.cell (p := ⟨g, 2, none⟩) h.lt).trans h.c2, (hb.cell (p := ⟨g, 3, none⟩) h.lt).trans h.c3, Nat.lt_of_lt_of_le h.lt hb.size, h.ha, h.hb⟩
theorem six_cell {w : World} {T : Nat} {p : Addr} {u v0 v1 v2 v3 v4 v5 : Value} (h : w.cell? p = some u) (hn : p.block ≠ T) :
    ((((((w.setCell ⟨T, 0, none⟩ v0).setCell ⟨T, 1, none⟩ v1).setCell ⟨T, 2, none⟩ v2).setCell ⟨T, 3, none⟩ v3).setCell ⟨T, 4, none⟩ v4).setCell ⟨T, 5, none⟩ v5).cell? p = some u := by
  rw [← h]
  apply cell_same
  rw [RowKit.Below.heap_setCell _ _ _ _ hn, RowKit.Below.heap_setCell _ _ _ _ hn, RowKit.Below.heap_setCell _ _ _ _ hn, RowKit.Below.heap_setCell _ _ _ _ hn, RowKit.Below.heap_setCell _ _ _ _ hn, RowKit.Below.heap_setCell _ _ _ _ hn]
theorem drew_cell (w : World) (p : Addr) : w.drew.cell? p = w.cell? p := rfl
theorem six_drew {w : World} {T : Nat} {p : Addr} {u v0 v1 v2 v3 v4 v5 : Value} (h : w.cell? p = some u) (hn : p.block ≠ T) :
    ((((((w.setCell ⟨T, 0, none⟩ v0).setCell ⟨T, 1, none⟩ v1).setCell ⟨T, 2, none⟩ v2).setCell ⟨T, 3, none⟩ v3).setCell ⟨T, 4, none⟩ v4).setCell ⟨T, 5, none⟩ v5).drew.cell? p = some u := (drew_cell _ _).trans (six_cell h hn)
theorem ver_ret {w : World} {T : Nat} {v0 v1 v2 v3 v4 v5 : Value} {tmps : Array Value} (h : Blk w T 42 #[v0, v1, v2, v3, v4, v5]) (h4 : tmps.getD 2 undef = .pointer (some ⟨T, 0, none⟩)) :
    (results Try.f86 tmps).run Try.prog w = .ok (.agg #[v0, v1, v2, v3, v4, v5]) w := by
  have x0 := h.cell 0
  have x1 := h.cell 1
  have x2 := h.cell 2
  have x3 := h.cell 3
  have x4 := h.cell 4
  have x5 := h.cell 5
  have g4 : tmps[2]?.getD undef = .pointer (some ⟨T, 0, none⟩) := by simpa using h4
  simp at x0 x1 x2 x3 x4 x5
  simp [results, Try.results86, go_sem, g4, x0, x1, x2, x3, x4, x5]
theorem version_any (h : EA w g id nm a b) : Calls Try.prog 86 #[.pointer (some ⟨g, 0, none⟩)] w fun e w' => e = .returned (tupV a b) ∧ Below w.heap.size w w' := by
  obtain ⟨T, hT⟩ : ∃ T, w.heap.size = T := ⟨_, rfl⟩
  obtain ⟨W1, hW1⟩ : ∃ W1, w.alloc (.cells #[.int .u64 0, .int .u64 0, .int .u64 0, .int .i64 0, .int .i64 0, .slice none 0 0] 42) = W1 := ⟨_, rfl⟩
  have hb1 : Below w.heap.size w W1 := by rw [← hW1]; exact bel_alloc _ _
  have hbT : Blk W1 T 42 #[.int .u64 0, .int .u64 0, .int .u64 0, .int .i64 0, .int .i64 0, .slice none 0 0] := by rw [← hW1, ← hT]; exact Blk.new w _ _
  have h1 := h.below hb1
  have hne : g ≠ T := by have := h.lt; omega
  have x2 := h1.c2
  have x3 := h1.c3
  have p0 := hbT.frozen 0
  have p1 := hbT.frozen 1
  have p2 := hbT.frozen 2
  have p3 := hbT.frozen 3
  have p4 := hbT.frozen 4
  have p5 := hbT.frozen 5
  have q0 := hbT.cell 0
  have q1 := hbT.cell 1
  have q2 := hbT.cell 2
  have q3 := hbT.cell 3
  have q4 := hbT.cell 4
  have q5 := hbT.cell 5
  have HX : Hid (W1.cell? ⟨g, 2, none⟩ = some (.int .u64 (a : Int)) ∧ W1.cell? ⟨g, 3, none⟩ = some (.int .u64 (b : Int))) := Lib.hid ⟨x2, x3⟩
  have HNE := Lib.hid hne
  have HBT := Lib.hid hbT
  have HB1 := Lib.hid hb1
  have HWS := Lib.hid (And.intro hW1 hT)
  clear h hb1 hbT h1 hne hW1 hT
  go_enter Try.func86, Try.ntmps86
  go_upto_region 1 with fail
  rw [HWS.out.1, HWS.out.2]
  go_region_held3 (fun w' => w'.cell? ⟨g, 2, none⟩ = some (.int .u64 (a : Int)) ∧ w'.cell? ⟨g, 3, none⟩ = some (.int .u64 (b : Int))) (first | with_reducible exact ⟨six_drew HX.out.1 HNE.out, six_drew HX.out.2 HNE.out⟩ | with_reducible exact HX.out | go_keep) (fail)
  go_wp2_with fail
  have hs := Blk.set_ (Blk.set_ (Blk.set_ (Blk.set_ (Blk.set_ (Blk.set_ HBT.out 0 (.int .u64 0)) 1 (.int .u64 (a : Int))) 2 (.int .u64 (b : Int))) 3 (.int .i64 0)) 4 (.int .i64 0)) 5 (.slice none 0 0)
  clear x2 x3 p0 p1 p2 p3 p4 p5 q0 q1 q2 q3 q4 q5
  refine bodyPost_ret (ver_ret (Blk.below hs (bel_drew _) (Blk.lt hs)) rfl) rfl ?_
  have hT : w.heap.size ≤ T := by rw [HWS.out.2]; exact Nat.le_refl _
  have hb3 := (((((HB1.out.setCell (p := ⟨T, 0, none⟩) hT (.int .u64 0)).setCell (p := ⟨T, 1, none⟩) hT (.int .u64 (a : Int))).setCell (p := ⟨T, 2, none⟩) hT (.int .u64 (b : Int))).setCell (p := ⟨T, 3, none⟩) hT (.int .i64 0)).setCell (p := ⟨T, 4, none⟩) hT (.int .i64 0)).setCell (p := ⟨T, 5, none⟩) hT (.slice none 0 0)
  exact ⟨rfl, bel_dr hb3⟩
end
/-- a log, and a snapshot -/
structure Lk (w : World) (F : Nat → Prop) (P f : Nat) (S : List Nat) (s : Sn) (n : Nat) : Prop where
  lf : LF w F P f S
  ok : ∀ t ∈ S, 1 ≤ t ∧ t ≤ 3
  sl : SlU w s.A s.c s.run
  n : s.run.length = n
theorem Lk.below {w w' : World} {F : Nat → Prop} {P f n : Nat} {S : List Nat} {s : Sn} (h : Lk w F P f S s n) (hb : Below w.heap.size w w') : Lk w' F P f S s n := ⟨h.lf.below hb, h.ok, Sl.on h.sl hb, h.n⟩
def visS (f : Nat) (S : List Nat) (s : Sn) (a b : Nat) : Bool := visB f S s.own s.xmax s.run a b
section
variable {w w' : World} {F : Nat → Prop} {P f n g id a b : Nat} {S : List Nat} {s : Sn} {nm : ByteArray}
theorem visible_s (h : Lk w F P f S s n) (ha : a < 18446744073709551616) (hb : b < 18446744073709551616) : Calls Try.prog 21 #[.pointer (some ⟨P, 0, none⟩), .agg #[.int .u64 (s.own : Int), .int .u64 (s.xmin : Int), .int .u64 (s.xmax : Int), .slice s.A n s.c], tupV a b] w (BoolP w (visS f S s a b)) := by
  obtain ⟨h1, h2, h3, rfl⟩ := h
  exact visible_any h1 h2 h3 ha hb
theorem free_s (h : Lk w F P f S s n) (ha : a < 18446744073709551616) (hb : b < 18446744073709551616) : Calls Try.prog 23 #[.pointer (some ⟨P, 0, none⟩), .agg #[.int .u64 (s.own : Int), .int .u64 (s.xmin : Int), .int .u64 (s.xmax : Int), .slice s.A n s.c], tupV a b] w fun e w' => e = .returned (.int .i64 (freeE f S s.own s.xmax s.run a b)) ∧ Below w.heap.size w w' := by
  obtain ⟨h1, h2, h3, rfl⟩ := h
  exact (free_any h1 h2 h3 ha hb).mono fun e w' h => h
theorem visible_e (h : Lk w F P f S s n) (he : EA w g id nm a b) : Calls Try.prog 65 #[.pointer (some ⟨g, 0, none⟩), .pointer (some ⟨P, 0, none⟩), .agg #[.int .u64 (s.own : Int), .int .u64 (s.xmin : Int), .int .u64 (s.xmax : Int), .slice s.A n s.c]] w (BoolP w (visS f S s a b)) := by
  obtain ⟨T, hT⟩ : ∃ T, w.heap.size = T := ⟨_, rfl⟩
  obtain ⟨W1, hW1⟩ : ∃ W1, w.alloc (.cells #[.int .u64 (s.own : Int), .int .u64 (s.xmin : Int), .int .u64 (s.xmax : Int), .slice s.A n s.c] 48) = W1 := ⟨_, rfl⟩
  have hb1 : Below w.heap.size w W1 := by rw [← hW1]; exact bel_alloc _ _
  have hbT : Blk W1 T 48 #[.int .u64 (s.own : Int), .int .u64 (s.xmin : Int), .int .u64 (s.xmax : Int), .slice s.A n s.c] := by rw [← hW1, ← hT]; exact Blk.new w _ _
  have HBD := Lib.hid (bel_trans hb1 (bel_drew W1))
  have CV := Lib.hid (version_any ((he.below hb1).below (bel_drew W1)))
  have CS := Lib.hid (fun (W : World) (hW : Below W1.drew.heap.size W1.drew W) => visible_s (((h.below hb1).below (bel_drew W1)).below hW) he.ha he.hb)
  have HBT := Lib.hid (Blk.below hbT (bel_drew W1) (Blk.lt hbT))
  have HX := Lib.hid (cells4 hbT)
  obtain ⟨x0, x1, x2, x3⟩ := HX.out
  have HWS := Lib.hid (And.intro hW1 hT)
  obtain ⟨p, hp⟩ : ∃ p, visS f S s a b = p := ⟨_, rfl⟩
  rw [hp] at CS ⊢
  clear h he hb1 hbT hW1 hT hp
  go_enter Try.func65, Try.ntmps65
  go_upto_region 1 with fail
  rw [HWS.out.1, HWS.out.2]
  go_region_held3 (fun w' => w'.cell? ⟨T, 0, none⟩ = some (.int .u64 (s.own : Int)) ∧ w'.cell? ⟨T, 1, none⟩ = some (.int .u64 (s.xmin : Int)) ∧ w'.cell? ⟨T, 2, none⟩ = some (.int .u64 (s.xmax : Int)) ∧ w'.cell? ⟨T, 3, none⟩ = some (.slice s.A n s.c)) (first | with_reducible exact X4.out | with_reducible exact X3.out | with_reducible exact HX.out | go_keep)
    (first
      | (go_at_call 21; refine (CS.out _ HB3.out).mono ?_; rintro e w4 ⟨rfl, hb4⟩; have X4 := Lib.hid (cells4 (HT3.out.below hb4 HT3.out.lt)); have HB4 := Lib.hid (HBD.out.trans ((HB3.out.trans (hb4.mono HB3.out.size)).mono HBD.out.size)))
      | (go_at_call 86; refine CV.out.mono ?_; rintro e w3 ⟨rfl, hb3⟩; have HT3 := Lib.hid (HBT.out.below hb3 HBT.out.lt); have X3 := Lib.hid (cells4 HT3.out); have HB3 := Lib.hid hb3))
  go_wp2_with fail
  go_ret
  exact ⟨rfl, HB4.out⟩
end
end Go.Proofs.Ytnpmjljpaaaljaa.Bok
