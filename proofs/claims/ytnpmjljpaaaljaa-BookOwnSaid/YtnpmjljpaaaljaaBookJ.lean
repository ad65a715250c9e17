/- book.Book: New, enter, CreateTable. -/
import Derived.Test.YtnpmjljpaaaljaaBookI
namespace Go.Proofs.Ytnpmjljpaaaljaa.Bok
open Go.ChangeMaps Go.MapKept Go.RowKit Go.Proofs.Ytnpmjljpaaaljaa.Nums Go.Proofs.Ytnpmjljpaaaljaa.Mem Go.Proofs.Ytnpmjljpaaaljaa.Clg
set_option linter.unusedVariables false
set_option linter.unusedSimpArgs false
set_option maxRecDepth 100000
set_option maxHeartbeats 1000000
/-- blocks of no other types have turned -/
def TF (w w' : World) (l : List TypeId) : Prop := ∀ (g : Nat) (t : TypeId) (cs : Array Value), Blk w g t cs → t ∉ l → Blk w' g t cs
theorem TF.trans {a b c : World} {l : List TypeId} (h : TF a b l) (k : TF b c l) : TF a c l := fun g t cs hb ht => k g t cs (h g t cs hb ht) ht
theorem TF.below {w w' : World} {l : List TypeId} (hb : Below w.heap.size w w') : TF w w' l := fun g t cs h _ => Blk.below h hb h.lt
theorem TF.kin {w w' : World} {B sz n : Nat} {e : TypeId} {v v' : Value} {xs : List Value} {l : List TypeId} (ho : w.ownsRow B e sz v n xs) (hk : Kin w w' v v') (he : e ∈ l) : TF w w' l := fun g t cs h ht =>
  (hk.1.block g h.lt (Ne.symm (own_blk_ne ho h (fun e2 => ht (e2 ▸ he))))).trans h
theorem TF.set {w : World} {B : Nat} {t0 : TypeId} {cs0 : Array Value} {l : List TypeId} (hB : Blk w B t0 cs0) (he : t0 ∈ l) (o : Nat) (u : Value) : TF w (w.setCell ⟨B, o, none⟩ u) l := fun g t cs h ht =>
  (RowKit.Below.heap_setCell w ⟨B, o, none⟩ u g (h.ne_ hB (fun e2 => ht (e2 ▸ he)))).trans h
theorem TF.turn1 {w w' : World} {B : Nat} {t0 : TypeId} {cs0 : Array Value} {l : List TypeId} (hB : Blk w B t0 cs0) (ht : Turn (fun g => g = B) w w') (he : t0 ∈ l) : TF w w' l := fun g t cs h hl =>
  (ht.block g h.lt (h.ne_ hB (fun e2 => hl (e2 ▸ he)))).trans h
section
variable {w w' : World} {F G : Nat → Prop} {B last last' : Nat} {ts ts' : List Tb} {xs xs' : List Ix} {A1 A2 A1' A2' : Option Addr} {c1 c2 c1' c2' : Nat} {l : List TypeId}
/-- the book's arrays anew -/
theorem BA.anew (h : BA w F B ts xs last A1 c1 A2 c2) (ht : TF w w' l) (h1 : (141 : TypeId) ∉ l) (h2 : (149 : TypeId) ∉ l) (h3 : (139 : TypeId) ∉ l) (hs : w.heap.size ≤ w'.heap.size)
    (hblk : Blk w' B 129 #[.slice A1' ts.length c1', .slice A2' xs.length c2', .int .u64 (last' : Int)])
    (hoT : w'.ownsRow 0 132 1 (.slice A1' ts.length c1') ts.length (ptrs (gsT ts)))
    (hoX : w'.ownsRow 0 146 1 (.slice A2' xs.length c2') xs.length (ptrs (gsX xs)))
    (hG : ∀ g, F g → G g) (hlt : ∀ g, G g → g < w'.heap.size) (f1 : ∀ g, (Value.slice A1' ts.length c1').ownBlock = some g → G g) (f2 : ∀ g, (Value.slice A2' xs.length c2').ownBlock = some g → G g) (htop : last' ≤ 1000000) : BA w' G B ts xs last' A1' c1' A2' c2' := by
  refine ⟨hblk, hoT, hoX, fun i t hi => ?_, fun i x hi => ⟨ht _ _ _ (h.ix i x hi).1 h2, (h.ix i x hi).2⟩, h.apT, h.apX, hG _ h.fB, f1, f2, fun i t hi => ⟨hG _ (h.fT i t hi).1, hG _ (h.fT i t hi).2⟩, fun i x hi => hG _ (h.fX i x hi), hlt, htop⟩
  obtain ⟨k1, k2, k3⟩ := h.tb i t hi
  obtain ⟨cs, hc⟩ := k3.bk
  exact ⟨ht _ _ _ k1 h1, k2, k3.keep ((ht _ _ _ hc h3).trans hc.symm) hs⟩
/-- one table more -/
theorem BA.addT (h : BA w F B ts xs last A1 c1 A2 c2) {t : Tb} (hb : Blk w t.e.g 141 t.cells) (ho : t.e.ok) (hc : Col w t.d t.c) (hn : ∀ (i : Nat) (u : Tb), ts[i]? = some u → u.e.g ≠ t.e.g)
    {A' : Option Addr} {c' : Nat} (hown : w'.ownsRow 0 132 1 (.slice A' (ts.length + 1) c') (ts.length + 1) (ptrs (gsT ts) ++ ptrs [t.e.g])) (hk : Kin w w' (.slice A1 ts.length c1) (.slice A' (ts.length + 1) c'))
    (hG : ∀ g, F g ∨ g = t.e.g ∨ g = t.d ∨ (w.heap.size ≤ g ∧ g < w'.heap.size) → G g) (hlt : ∀ g, G g → g < w'.heap.size) : BA (w'.setCell ⟨B, 0, none⟩ (.slice A' (ts.length + 1) c')) G B (ts ++ [t]) xs last A' c' A2 c2 := by
  have e1 : (ts ++ [t]).length = ts.length + 1 := by simp
  have hl : TF w w' [132] := TF.kin h.ownT hk (by simp)
  have hB : Blk w' B 129 _ := hl _ _ _ h.blk (by decide)
  have hset : TF w' (w'.setCell ⟨B, 0, none⟩ (.slice A' (ts.length + 1) c')) [132, 129] := TF.set hB (by simp) 0 _
  have hall : TF w (w'.setCell ⟨B, 0, none⟩ (.slice A' (ts.length + 1) c')) [132, 129] := TF.trans (TF.kin h.ownT hk (by simp)) hset
  have hsz : (w'.setCell ⟨B, 0, none⟩ (.slice A' (ts.length + 1) c')).heap.size = w'.heap.size := by simp [World.setCell]
  have hX : w'.ownsRow 0 146 1 (.slice A2 xs.length c2) xs.length (ptrs (gsX xs)) := own_keep h.ownX fun g hg => by
    rcases h.ownX.2 with ⟨q1, _⟩ | ⟨g', cap, cur, q1, _, q3, _⟩
    · rw [q1] at hg; simp [Value.ownBlock] at hg
    · rw [q1] at hg
      have : g' = g := by simpa [Value.ownBlock] using hg
      subst this
      exact (hl _ _ _ q3 (by decide)).trans q3.symm
  have keepB : ∀ {e : TypeId} {v : Value} {n : Nat} {ys : List Value}, e ≠ 129 → w'.ownsRow 0 e 1 v n ys → (w'.setCell ⟨B, 0, none⟩ (.slice A' (ts.length + 1) c')).ownsRow 0 e 1 v n ys := fun he hy => own_keep hy fun g hg => RowKit.Below.heap_setCell _ _ _ _ (fun e2 => own_blk_ne hy hB he (by rw [hg, e2]))
  have hTb : ∀ (i : Nat) (u : Tb), (ts ++ [t])[i]? = some u → ts[i]? = some u ∨ (i = ts.length ∧ u = t) := by
    intro i u hi
    by_cases e : i < ts.length
    · rw [List.getElem?_append_left e] at hi; exact .inl hi
    · rw [List.getElem?_append_right (by omega)] at hi
      cases hq : i - ts.length with
      | zero => rw [hq] at hi; simp at hi; exact .inr ⟨by omega, hi.symm⟩
      | succ k => rw [hq] at hi; simp at hi
  have hcol : ∀ {d c : Nat}, Col w d c → Col (w'.setCell ⟨B, 0, none⟩ (.slice A' (ts.length + 1) c')) d c := fun k => by
    obtain ⟨cs, hc⟩ := k.bk
    exact k.keep ((hall _ _ _ hc (by decide)).trans hc.symm) (by rw [hsz]; exact hk.size)
  refine ⟨?_, ?_, keepB (by decide) hX, fun i u hi => ?_, fun i x hi => ⟨hall _ _ _ (h.ix i x hi).1 (by decide), (h.ix i x hi).2⟩, fun i j u v hi hj hne => ?_, h.apX, hG _ (.inl h.fB), fun g hg => ?_, fun g hg => hG _ (.inl (h.f2 g hg)), fun i u hi => ?_, fun i x hi => hG _ (.inl (h.fX i x hi)), fun g hg => by rw [hsz]; exact hlt g hg, h.top⟩
  · rw [e1]; exact Blk.set_ hB 0 _
  · rw [e1]
    have e2 : ptrs (gsT (ts ++ [t])) = ptrs (gsT ts) ++ ptrs [t.e.g] := by rw [← ptrs_app]; simp [gsT]
    rw [e2]
    exact keepB (by decide) hown
  · rcases hTb i u hi with hi | ⟨_, rfl⟩
    · obtain ⟨k1, k2, k3⟩ := h.tb i u hi
      exact ⟨hall _ _ _ k1 (by decide), k2, hcol k3⟩
    · exact ⟨hall _ _ _ hb (by decide), ho, hcol hc⟩
  · rcases hTb i u hi with h8 | ⟨h5, h7⟩
    · rcases hTb j v hj with h9 | ⟨_, h7⟩
      · exact h.apT i j u v h8 h9 hne
      · rw [h7]; exact hn i u h8
    · rcases hTb j v hj with h9 | ⟨h6, _⟩
      · rw [h7]; exact (hn j v h9).symm
      · omega
  · rw [e1] at hg
    rcases hk.2 with q | ⟨g', q, hg'⟩
    · exact hG _ (.inl (h.f1 g (by rw [← q]; exact hg)))
    · rw [hg] at q
      injection q with q
      subst q
      exact hG _ (.inr (.inr (.inr ⟨hg', (hown.lt g hg).2⟩)))
  · rcases hTb i u hi with hi | ⟨_, rfl⟩
    · exact ⟨hG _ (.inl (h.fT i u hi).1), hG _ (.inl (h.fT i u hi).2)⟩
    · exact ⟨hG _ (.inr (.inl rfl)), hG _ (.inr (.inr (.inl rfl)))⟩
end
theorem new_b (w : World) : Calls Try.prog 33 #[] w fun e w' => e = .returned (.pointer (some ⟨w.heap.size, 0, none⟩)) ∧ BF w' (fun g => g = w.heap.size) w.heap.size [] [] 0 ∧ Below w.heap.size w w' := by
  have hb := Blk.new w 129 #[.slice none 0 0, .slice none 0 0, .int .u64 0]
  have HN : Hid (BF (w.alloc (.cells #[.slice none 0 0, .slice none 0 0, .int .u64 0] 129)) (fun g => g = w.heap.size) w.heap.size [] [] 0) := Lib.hid ⟨none, 0, none, 0, hb, World.ownsRow_nil _ _ _ _, World.ownsRow_nil _ _ _ _, fun i t h => by simp at h, fun i t h => by simp at h, fun i j t u h => by simp at h, fun i j t u h => by simp at h, rfl, fun g h => by simp [Value.ownBlock] at h, fun g h => by simp [Value.ownBlock] at h, fun i t h => by simp at h, fun i t h => by simp at h, fun g h => by subst h; exact hb.lt, by omega⟩
  clear hb
  go_enter Try.func33, Try.ntmps33
  go_wp2_with fail
  go_ret
  exact ⟨rfl, HN.out, bel_alloc _ _⟩
theorem ent_ret {w : World} {T : Nat} {v0 v1 v2 v3 : Value} {tmps : Array Value} (h : Blk w T 134 #[v0, v1, v2, v3]) (h4 : tmps.getD 6 undef = .pointer (some ⟨T, 0, none⟩)) :
    (results Try.f61 tmps).run Try.prog w = .ok (.agg #[v0, v1, v2, v3]) w := by
  have x0 := h.cell 0
  have x1 := h.cell 1
  have x2 := h.cell 2
  have x3 := h.cell 3
  have g4 : tmps[6]?.getD undef = .pointer (some ⟨T, 0, none⟩) := by simpa using h4
  simp at x0 x1 x2 x3
  simp [results, Try.results61, go_sem, g4, x0, x1, x2, x3]
theorem enter_b {w : World} {B last : Nat} {V1 V2 : Value} (h : Blk w B 129 #[V1, V2, .int .u64 (last : Int)]) (hl : last ≤ 999999) (x : Nat) (name : ByteArray) :
    Calls Try.prog 61 #[.pointer (some ⟨B, 0, none⟩), .int .u64 (x : Int), .string name] w fun e w' => e = .returned (.agg #[.int .u64 ((last + 1 : Nat) : Int), .string name, .int .u64 (x : Int), .int .u64 0]) ∧ Blk w' B 129 #[V1, V2, .int .u64 ((last + 1 : Nat) : Int)] ∧ Turn (fun g => g = B) w w' := by
  obtain ⟨T, hT⟩ : ∃ T, w.heap.size = T := ⟨_, rfl⟩
  obtain ⟨W1, hW1⟩ : ∃ W1, w.alloc (.cells #[.int .u64 0, .string ⟨#[]⟩, .int .u64 0, .int .u64 0] 134) = W1 := ⟨_, rfl⟩
  have hb1 : Below w.heap.size w W1 := by rw [← hW1]; exact bel_alloc _ _
  have hbT : Blk W1 T 134 #[.int .u64 0, .string ⟨#[]⟩, .int .u64 0, .int .u64 0] := by rw [← hW1, ← hT]; exact Blk.new w _ _
  have hbB : Blk W1 B 129 #[V1, V2, .int .u64 (last : Int)] := Blk.below h hb1 h.lt
  have hne : B ≠ T := by have := h.lt; omega
  have hl' : (last : Int) + 1 ≤ 1000000 := by omega
  have hl0 : (0 : Int) ≤ last := by omega
  have q0 := hbT.frozen 0
  have q1 := hbT.frozen 1
  have q2 := hbT.frozen 2
  have q3 := hbT.frozen 3
  have y0 := hbT.cell 0
  have y1 := hbT.cell 1
  have y2 := hbT.cell 2
  have y3 := hbT.cell 3
  have x2 := hbB.cell 2
  have f2 := hbB.frozen 2
  have HB1 := Lib.hid hb1
  have HBT := Lib.hid hbT
  have HBB := Lib.hid hbB
  have HNE := Lib.hid hne
  have HLT := Lib.hid h.lt
  have HWS := Lib.hid (And.intro hW1 hT)
  have hneI : ¬ B = T := hne
  have hneJ : ¬ T = B := Ne.symm hne
  clear h hb1 hbT hbB hne hW1 hT hl
  go_enter Try.func61, Try.ntmps61
  go_upto_region 1 with fail
  rw [HWS.out.1, HWS.out.2]
  go_upto_region 2 with fail
  obtain ⟨W2, hW2⟩ : ∃ W2, W1.setCell ⟨B, 2, none⟩ (.int .u64 ((last : Int) + 1)) = W2 := ⟨_, rfl⟩
  rw [hW2]
  have hB2 : Blk W2 B 129 #[V1, V2, .int .u64 ((last : Int) + 1)] := by rw [← hW2]; exact Blk.set_ HBB.out 2 _
  have hT2 : Blk W2 T 134 #[.int .u64 0, .string ⟨#[]⟩, .int .u64 0, .int .u64 0] := by rw [← hW2]; exact (RowKit.Below.heap_setCell W1 ⟨B, 2, none⟩ _ T (Ne.symm HNE.out)).trans HBT.out
  have HT2 : Hid (Turn (fun g => g = B) w W2) := Lib.hid (by rw [← hW2]; exact (Turn.of_below (F := fun g => g = B) HB1.out).set_ (p := ⟨B, 2, none⟩) (.inl rfl) _)
  have HB2 := Lib.hid hB2
  have HX2 := Lib.hid hT2
  clear hW2 q0 q1 q2 q3 y0 y1 y2 y3 x2 f2
  have x2 := hB2.cell 2
  have q0 := hT2.frozen 0
  have q1 := hT2.frozen 1
  have q2 := hT2.frozen 2
  have q3 := hT2.frozen 3
  have y0 := hT2.cell 0
  have y1 := hT2.cell 1
  have y2 := hT2.cell 2
  have y3 := hT2.cell 3
  clear hB2 hT2 hneI hneJ hl' hl0
  go_wp2_with fail
  have hs := put4 (b0 := .int .u64 ((last : Int) + 1)) (b1 := .string name) (b2 := .int .u64 (x : Int)) (b3 := .int .u64 0) HX2.out
  have e : ((last + 1 : Nat) : Int) = (last : Int) + 1 := by push_cast; rfl
  rw [e]
  refine bodyPost_ret (ent_ret hs.1 rfl) rfl ?_
  have hR := (hs.2 B HNE.out).trans HB2.out
  have hTw : w.heap.size ≤ T := by rw [HWS.out.2]; exact Nat.le_refl _
  have hS := (((HT2.out.set_ (p := ⟨T, 0, none⟩) (.inr hTw) (.int .u64 ((last : Int) + 1))).set_ (p := ⟨T, 1, none⟩) (.inr hTw) (.string name)).set_ (p := ⟨T, 2, none⟩) (.inr hTw) (.int .u64 (x : Int))).set_ (p := ⟨T, 3, none⟩) (.inr hTw) (.int .u64 0)
  exact ⟨rfl, hR, hS⟩
end Go.Proofs.Ytnpmjljpaaaljaa.Bok
