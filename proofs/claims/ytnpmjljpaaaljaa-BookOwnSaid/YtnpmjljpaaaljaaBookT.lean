/- book.table, book.index: tell. -/
import Derived.Test.YtnpmjljpaaaljaaBookN
namespace Go.Proofs.Ytnpmjljpaaaljaa.Bok
open Go.ChangeMaps Go.MapKept Go.RowKit Go.Proofs.Ytnpmjljpaaaljaa.Nums Go.Proofs.Ytnpmjljpaaaljaa.Mem Go.Proofs.Ytnpmjljpaaaljaa.Clg
set_option linter.unusedVariables false
set_option linter.unusedSimpArgs false
set_option maxRecDepth 100000
set_option maxHeartbeats 1000000
theorem cells5 {w : World} {g : Nat} {t : TypeId} {a b c d e : Value} (h : Blk w g t #[a, b, c, d, e]) : w.cell? ⟨g, 0, none⟩ = some a ∧ w.cell? ⟨g, 1, none⟩ = some b ∧ w.cell? ⟨g, 2, none⟩ = some c ∧ w.cell? ⟨g, 3, none⟩ = some d ∧ w.cell? ⟨g, 4, none⟩ = some e := ⟨h.cell 0, h.cell 1, h.cell 2, h.cell 3, h.cell 4⟩
theorem blk_six {w : World} {g T : Nat} {t : TypeId} {cs : Array Value} {v0 v1 v2 v3 v4 v5 : Value} (h : Blk w g t cs) (hn : g ≠ T) :
    Blk ((((((w.setCell ⟨T, 0, none⟩ v0).setCell ⟨T, 1, none⟩ v1).setCell ⟨T, 2, none⟩ v2).setCell ⟨T, 3, none⟩ v3).setCell ⟨T, 4, none⟩ v4).setCell ⟨T, 5, none⟩ v5) g t cs := by
  have e : ((((((w.setCell ⟨T, 0, none⟩ v0).setCell ⟨T, 1, none⟩ v1).setCell ⟨T, 2, none⟩ v2).setCell ⟨T, 3, none⟩ v3).setCell ⟨T, 4, none⟩ v4).setCell ⟨T, 5, none⟩ v5).heap[g]? = w.heap[g]? := by
    rw [RowKit.Below.heap_setCell _ _ _ _ hn, RowKit.Below.heap_setCell _ _ _ _ hn, RowKit.Below.heap_setCell _ _ _ _ hn, RowKit.Below.heap_setCell _ _ _ _ hn, RowKit.Below.heap_setCell _ _ _ _ hn, RowKit.Below.heap_setCell _ _ _ _ hn]
  exact e.trans h
theorem blk_five {w : World} {g T : Nat} {t : TypeId} {cs : Array Value} {v0 v1 v2 v3 v4 : Value} (h : Blk w g t cs) (hn : g ≠ T) :
    Blk (((((w.setCell ⟨T, 0, none⟩ v0).setCell ⟨T, 1, none⟩ v1).setCell ⟨T, 2, none⟩ v2).setCell ⟨T, 3, none⟩ v3).setCell ⟨T, 4, none⟩ v4) g t cs := by
  have e : (((((w.setCell ⟨T, 0, none⟩ v0).setCell ⟨T, 1, none⟩ v1).setCell ⟨T, 2, none⟩ v2).setCell ⟨T, 3, none⟩ v3).setCell ⟨T, 4, none⟩ v4).heap[g]? = w.heap[g]? := by
    rw [RowKit.Below.heap_setCell _ _ _ _ hn, RowKit.Below.heap_setCell _ _ _ _ hn, RowKit.Below.heap_setCell _ _ _ _ hn, RowKit.Below.heap_setCell _ _ _ _ hn, RowKit.Below.heap_setCell _ _ _ _ hn]
  exact e.trans h
theorem blk_drew {w : World} {g : Nat} {t : TypeId} {cs : Array Value} (h : Blk w g t cs) : Blk w.drew g t cs := h
theorem itell_ret {w : World} {T : Nat} {v0 v1 v2 v3 v4 v5 : Value} {tmps : Array Value} (h : Blk w T 87 #[v0, v1, v2, v3, v4, v5]) (h4 : tmps.getD 2 undef = .pointer (some ⟨T, 0, none⟩)) :
    (results Try.f68 tmps).run Try.prog w = .ok (.agg #[v0, v1, v2, v3, v4, v5]) w := by
  have x0 := h.cell 0
  have x1 := h.cell 1
  have x2 := h.cell 2
  have x3 := h.cell 3
  have x4 := h.cell 4
  have x5 := h.cell 5
  have g4 : tmps[2]?.getD undef = .pointer (some ⟨T, 0, none⟩) := by simpa using h4
  simp at x0 x1 x2 x3 x4 x5
  simp [results, Try.results68, go_sem, g4, x0, x1, x2, x3, x4, x5]
theorem ttell_ret {w : World} {T : Nat} {v0 v1 v2 v3 v4 : Value} {tmps : Array Value} (h : Blk w T 91 #[v0, v1, v2, v3, v4]) (h4 : tmps.getD 2 undef = .pointer (some ⟨T, 0, none⟩)) :
    (results Try.f69 tmps).run Try.prog w = .ok (.agg #[v0, v1, v2, v3, v4]) w := by
  have x0 := h.cell 0
  have x1 := h.cell 1
  have x2 := h.cell 2
  have x3 := h.cell 3
  have x4 := h.cell 4
  have g4 : tmps[2]?.getD undef = .pointer (some ⟨T, 0, none⟩) := by simpa using h4
  simp at x0 x1 x2 x3 x4
  simp [results, Try.results69, go_sem, g4, x0, x1, x2, x3, x4]
/-- an index as it is told -/
def Ix.val (x : Ix) : Value := .agg #[.int .u64 (x.e.id : Int), .string x.e.nm, .int .u64 (x.t : Int), .int .i64 (x.k : Int), .int .u64 (x.e.a : Int), .int .u64 (x.e.b : Int)]
theorem itell_any {w : World} {g id a b t k : Nat} {nm : ByteArray} (h : Blk w g 149 (Ix.cells ⟨⟨g, id, nm, a, b⟩, t, k⟩)) : Calls Try.prog 68 #[.pointer (some ⟨g, 0, none⟩)] w fun e w' => e = .returned (Ix.val ⟨⟨g, id, nm, a, b⟩, t, k⟩) ∧ Below w.heap.size w w' := by
  unfold Ix.cells at h
  unfold Ix.val
  obtain ⟨T, hT⟩ : ∃ T, w.heap.size = T := ⟨_, rfl⟩
  obtain ⟨W1, hW1⟩ : ∃ W1, w.alloc (.cells #[.int .u64 0, .string ⟨#[]⟩, .int .u64 0, .int .i64 0, .int .u64 0, .int .u64 0] 87) = W1 := ⟨_, rfl⟩
  have hb1 : Below w.heap.size w W1 := by rw [← hW1]; exact bel_alloc _ _
  have hbT : Blk W1 T 87 #[.int .u64 0, .string ⟨#[]⟩, .int .u64 0, .int .i64 0, .int .u64 0, .int .u64 0] := by rw [← hW1, ← hT]; exact Blk.new w _ _
  have hg := Blk.below h hb1 h.lt
  have HNE : Hid (g ≠ T) := Lib.hid (by have := h.lt; omega)
  have HG := Lib.hid hg
  have HX := Lib.hid (cells6 hg)
  obtain ⟨x0, x1, x2, x3, x4, x5⟩ := HX.out
  have p0 := hbT.frozen 0
  have p1 := hbT.frozen 1
  have p2 := hbT.frozen 2
  have p3 := hbT.frozen 3
  have p4 := hbT.frozen 4
  have p5 := hbT.frozen 5
  have q0 := hbT.cell 0
  have q1 := hbT.cell 1
  have q2 := hbT.cell 2
  have q3 := hbT.cell 3
  have q4 := hbT.cell 4
  have q5 := hbT.cell 5
  have HBT := Lib.hid hbT
  have HB1 := Lib.hid hb1
  have HWS := Lib.hid (And.intro hW1 hT)
  clear h hb1 hbT hg hW1 hT
  go_enter Try.func68, Try.ntmps68
  go_upto_region 1 with fail
  rw [HWS.out.1, HWS.out.2]
  go_region_held3 (fun w' => w'.cell? ⟨g, 0, none⟩ = some (.int .u64 (id : Int)) ∧ w'.cell? ⟨g, 1, none⟩ = some (.string nm) ∧ w'.cell? ⟨g, 2, none⟩ = some (.int .u64 (a : Int)) ∧ w'.cell? ⟨g, 3, none⟩ = some (.int .u64 (b : Int)) ∧ w'.cell? ⟨g, 4, none⟩ = some (.int .u64 (t : Int)) ∧ w'.cell? ⟨g, 5, none⟩ = some (.int .i64 (k : Int))) (first | with_reducible exact cells6 (blk_drew (blk_six HG.out HNE.out)) | with_reducible exact HX.out | go_keep) (fail)
  go_wp2_with fail
  have hs := Blk.set_ (Blk.set_ (Blk.set_ (Blk.set_ (Blk.set_ (Blk.set_ HBT.out 0 (.int .u64 (id : Int))) 1 (.string nm)) 2 (.int .u64 (t : Int))) 3 (.int .i64 (k : Int))) 4 (.int .u64 (a : Int))) 5 (.int .u64 (b : Int))
  clear x0 x1 x2 x3 x4 x5 p0 p1 p2 p3 p4 p5 q0 q1 q2 q3 q4 q5
  refine bodyPost_ret (itell_ret (Blk.below hs (bel_drew _) (Blk.lt hs)) rfl) rfl ?_
  have hT : w.heap.size ≤ T := by rw [HWS.out.2]; exact Nat.le_refl _
  have hb3 := (((((HB1.out.setCell (p := ⟨T, 0, none⟩) hT (.int .u64 (id : Int))).setCell (p := ⟨T, 1, none⟩) hT (.string nm)).setCell (p := ⟨T, 2, none⟩) hT (.int .u64 (t : Int))).setCell (p := ⟨T, 3, none⟩) hT (.int .i64 (k : Int))).setCell (p := ⟨T, 4, none⟩) hT (.int .u64 (a : Int))).setCell (p := ⟨T, 5, none⟩) hT (.int .u64 (b : Int))
  exact ⟨rfl, bel_dr hb3⟩
def TtP (w : World) (t : Tb) (e : Ending) (w' : World) : Prop := ∃ (d2 c2 : Nat), e = .returned (.agg #[.int .u64 (t.e.id : Int), .string t.e.nm, .slice (some ⟨d2, 0, none⟩) 1 c2, .int .u64 (t.e.a : Int), .int .u64 (t.e.b : Int)]) ∧ Below w.heap.size w w'
theorem ttell_any {w : World} {g id a b d c : Nat} {nm : ByteArray} (h : Blk w g 141 (Tb.cells ⟨⟨g, id, nm, a, b⟩, d, c⟩)) (hc : Col w d c) : Calls Try.prog 69 #[.pointer (some ⟨g, 0, none⟩)] w (TtP w ⟨⟨g, id, nm, a, b⟩, d, c⟩) := by
  unfold Tb.cells at h
  obtain ⟨T, hT⟩ : ∃ T, w.heap.size = T := ⟨_, rfl⟩
  obtain ⟨W1, hW1⟩ : ∃ W1, w.alloc (.cells #[.int .u64 0, .string ⟨#[]⟩, .slice none 0 0, .int .u64 0, .int .u64 0] 91) = W1 := ⟨_, rfl⟩
  have hb1 : Below w.heap.size w W1 := by rw [← hW1]; exact bel_alloc _ _
  have hbT : Blk W1 T 91 #[.int .u64 0, .string ⟨#[]⟩, .slice none 0 0, .int .u64 0, .int .u64 0] := by rw [← hW1, ← hT]; exact Blk.new w _ _
  have hg := Blk.below h hb1 h.lt
  have HNE : Hid (g ≠ T) := Lib.hid (by have := h.lt; omega)
  have HG := Lib.hid hg
  have HX := Lib.hid (cells5 hg)
  obtain ⟨x0, x1, x2, x3, x4⟩ := HX.out
  have HBT := Lib.hid (hbT.below (bel_drew W1) hbT.lt)
  have HGD := Lib.hid (hg.below (bel_drew W1) hg.lt)
  have HB1 := Lib.hid hb1
  have CC := Lib.hid (clonec_any ((hc.below hb1).below (bel_drew W1)))
  have HWS := Lib.hid (And.intro hW1 hT)
  clear h hb1 hbT hg hW1 hT hc
  go_enter Try.func69, Try.ntmps69
  go_upto_region 1 with fail
  rw [HWS.out.1, HWS.out.2]
  go_region_held3 (fun w' => w'.cell? ⟨g, 0, none⟩ = some (.int .u64 (id : Int)) ∧ w'.cell? ⟨g, 1, none⟩ = some (.string nm) ∧ w'.cell? ⟨g, 2, none⟩ = some (.int .u64 (a : Int)) ∧ w'.cell? ⟨g, 3, none⟩ = some (.int .u64 (b : Int)) ∧ w'.cell? ⟨g, 4, none⟩ = some (.slice (some ⟨d, 0, none⟩) 1 c)) (first | with_reducible exact cells5 (blk_five HG2.out HNE.out) | with_reducible exact X2.out | with_reducible exact HX.out | go_keep)
    (first
      | (go_at_call 62; refine CC.out.mono ?_; rintro e w2 ⟨d2, c2, rfl, _, _, hb2⟩; have HG2 := Lib.hid (HGD.out.below hb2 HGD.out.lt); have X2 := Lib.hid (cells5 HG2.out); have HT2 := Lib.hid (HBT.out.below hb2 HBT.out.lt); have HB2 := Lib.hid ((bel_dr HB1.out).trans (hb2.mono (bel_dr HB1.out).size)); have p0 := HT2.out.frozen 0; have p1 := HT2.out.frozen 1; have p2 := HT2.out.frozen 2; have p3 := HT2.out.frozen 3; have p4 := HT2.out.frozen 4; have q0 := HT2.out.cell 0; have q1 := HT2.out.cell 1; have q2 := HT2.out.cell 2; have q3 := HT2.out.cell 3; have q4 := HT2.out.cell 4; clear hb2))
  go_wp2_with fail
  have hs := Blk.set_ (Blk.set_ (Blk.set_ (Blk.set_ (Blk.set_ HT2.out 0 (.int .u64 (id : Int))) 1 (.string nm)) 2 (.slice (some ⟨d2, 0, none⟩) 1 c2)) 3 (.int .u64 (a : Int))) 4 (.int .u64 (b : Int))
  clear x0 x1 x2 x3 x4 p0 p1 p2 p3 p4 q0 q1 q2 q3 q4
  refine bodyPost_ret (ttell_ret hs rfl) rfl ?_
  have hT : w.heap.size ≤ T := by rw [HWS.out.2]; exact Nat.le_refl _
  have hb3 := ((((HB2.out.setCell (p := ⟨T, 0, none⟩) hT (.int .u64 (id : Int))).setCell (p := ⟨T, 1, none⟩) hT (.string nm)).setCell (p := ⟨T, 2, none⟩) hT (.slice (some ⟨d2, 0, none⟩) 1 c2)).setCell (p := ⟨T, 3, none⟩) hT (.int .u64 (a : Int))).setCell (p := ⟨T, 4, none⟩) hT (.int .u64 (b : Int))
  exact ⟨d2, c2, rfl, hb3⟩
end Go.Proofs.Ytnpmjljpaaaljaa.Bok
