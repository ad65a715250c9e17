/- book.Book: what it is in memory; entries, taken. -/
import Derived.Test.YtnpmjljpaaaljaaBookG
namespace Go.Proofs.Ytnpmjljpaaaljaa.Bok
open Go.ChangeMaps Go.MapKept Go.RowKit Go.Proofs.Ytnpmjljpaaaljaa.Nums Go.Proofs.Ytnpmjljpaaaljaa.Mem Go.Proofs.Ytnpmjljpaaaljaa.Clg
set_option linter.unusedVariables false
set_option linter.unusedSimpArgs false
set_option maxRecDepth 100000
set_option maxHeartbeats 1000000
/-- an entry: its block, ID, name, stamps -/
structure En where
  g : Nat
  id : Nat
  nm : ByteArray
  a : Nat
  b : Nat
/-- a table: an entry, and its columns' block -/
structure Tb where
  e : En
  d : Nat
  c : Nat
/-- an index: an entry, its table, its column -/
structure Ix where
  e : En
  t : Nat
  k : Nat
def ens (ts : List Tb) (xs : List Ix) : List En := ts.map Tb.e ++ xs.map Ix.e
def gsT (ts : List Tb) : List Nat := ts.map fun t => t.e.g
def gsX (xs : List Ix) : List Nat := xs.map fun x => x.e.g
theorem gsT_len (ts : List Tb) : (gsT ts).length = ts.length := by simp [gsT]
theorem gsX_len (xs : List Ix) : (gsX xs).length = xs.length := by simp [gsX]
def Tb.cells (t : Tb) : Array Value := #[.int .u64 (t.e.id : Int), .string t.e.nm, .int .u64 (t.e.a : Int), .int .u64 (t.e.b : Int), .slice (some ⟨t.d, 0, none⟩) 1 t.c]
def Ix.cells (x : Ix) : Array Value := #[.int .u64 (x.e.id : Int), .string x.e.nm, .int .u64 (x.e.a : Int), .int .u64 (x.e.b : Int), .int .u64 (x.t : Int), .int .i64 (x.k : Int)]
/-- numbers that are none too great -/
structure En.ok (e : En) : Prop where
  id : e.id ≤ 1000000
  a : e.a < 18446744073709551616
  b : e.b < 18446744073709551616
/-- block B is the book of these tables and indexes; F: its blocks -/
structure BA (w : World) (F : Nat → Prop) (B : Nat) (ts : List Tb) (xs : List Ix) (last : Nat) (A1 : Option Addr) (c1 : Nat) (A2 : Option Addr) (c2 : Nat) : Prop where
  blk : Blk w B 129 #[.slice A1 ts.length c1, .slice A2 xs.length c2, .int .u64 (last : Int)]
  ownT : w.ownsRow 0 132 1 (.slice A1 ts.length c1) ts.length (ptrs (gsT ts))
  ownX : w.ownsRow 0 146 1 (.slice A2 xs.length c2) xs.length (ptrs (gsX xs))
  tb : ∀ (i : Nat) (t : Tb), ts[i]? = some t → Blk w t.e.g 141 t.cells ∧ t.e.ok ∧ Col w t.d t.c
  ix : ∀ (i : Nat) (x : Ix), xs[i]? = some x → Blk w x.e.g 149 x.cells ∧ x.e.ok
  apT : ∀ (i j : Nat) (t u : Tb), ts[i]? = some t → ts[j]? = some u → i ≠ j → t.e.g ≠ u.e.g
  apX : ∀ (i j : Nat) (t u : Ix), xs[i]? = some t → xs[j]? = some u → i ≠ j → t.e.g ≠ u.e.g
  fB : F B
  f1 : ∀ g, (Value.slice A1 ts.length c1).ownBlock = some g → F g
  f2 : ∀ g, (Value.slice A2 xs.length c2).ownBlock = some g → F g
  fT : ∀ (i : Nat) (t : Tb), ts[i]? = some t → F t.e.g ∧ F t.d
  fX : ∀ (i : Nat) (x : Ix), xs[i]? = some x → F x.e.g
  lt : ∀ g, F g → g < w.heap.size
  top : last ≤ 1000000
def BF (w : World) (F : Nat → Prop) (B : Nat) (ts : List Tb) (xs : List Ix) (last : Nat) : Prop := ∃ A1 c1 A2 c2, BA w F B ts xs last A1 c1 A2 c2
section
variable {w w' : World} {F G : Nat → Prop} {B last : Nat} {ts : List Tb} {xs : List Ix} {A1 A2 : Option Addr} {c1 c2 : Nat}
theorem BA.keep (h : BA w F B ts xs last A1 c1 A2 c2) (hk : ∀ g, F g → w'.heap[g]? = w.heap[g]?) (hs : w.heap.size ≤ w'.heap.size) : BA w' F B ts xs last A1 c1 A2 c2 :=
  ⟨(hk B h.fB).trans h.blk, own_keep h.ownT fun g hg => hk g (h.f1 g hg), own_keep h.ownX fun g hg => hk g (h.f2 g hg), fun i t ht => ⟨(hk _ (h.fT i t ht).1).trans (h.tb i t ht).1, (h.tb i t ht).2.1, (h.tb i t ht).2.2.keep (hk _ (h.fT i t ht).2) hs⟩, fun i x hx => ⟨(hk _ (h.fX i x hx)).trans (h.ix i x hx).1, (h.ix i x hx).2⟩, h.apT, h.apX, h.fB, h.f1, h.f2, h.fT, h.fX, fun g hg => Nat.lt_of_lt_of_le (h.lt g hg) hs, h.top⟩
theorem BF.keep (h : BF w F B ts xs last) (hk : ∀ g, F g → w'.heap[g]? = w.heap[g]?) (hs : w.heap.size ≤ w'.heap.size) : BF w' F B ts xs last := by
  obtain ⟨A1, c1, A2, c2, h⟩ := h; exact ⟨A1, c1, A2, c2, h.keep hk hs⟩
theorem BF.lt (h : BF w F B ts xs last) : ∀ g, F g → g < w.heap.size := by obtain ⟨A1, c1, A2, c2, h⟩ := h; exact h.lt
theorem BF.below (h : BF w F B ts xs last) (hb : Below w.heap.size w w') : BF w' F B ts xs last := h.keep (fun g hg => hb.block g (h.lt g hg)) hb.size
theorem BF.turn (h : BF w F B ts xs last) (ht : Turn G w w') (hG : ∀ g, F g → ¬ G g) : BF w' F B ts xs last := h.keep (fun g hg => ht.block g (h.lt g hg) (hG g hg)) ht.size
theorem Blk.ea {w : World} {t : TypeId} {e : En} {cs : Array Value} (h : Blk w e.g t cs) (h0 : cs[0]? = some (.int .u64 (e.id : Int))) (h1 : cs[1]? = some (.string e.nm)) (h2 : cs[2]? = some (.int .u64 (e.a : Int))) (h3 : cs[3]? = some (.int .u64 (e.b : Int))) (ho : e.ok) : EA w e.g e.id e.nm e.a e.b :=
  ⟨(h.cell 0).trans h0, (h.cell 1).trans h1, (h.cell 2).trans h2, (h.cell 3).trans h3, h.lt, ho.a, ho.b⟩
theorem BA.eaT (h : BA w F B ts xs last A1 c1 A2 c2) {i : Nat} {t : Tb} (ht : ts[i]? = some t) : EA w t.e.g t.e.id t.e.nm t.e.a t.e.b := Blk.ea (h.tb i t ht).1 rfl rfl rfl rfl (h.tb i t ht).2.1
theorem BA.eaX (h : BA w F B ts xs last A1 c1 A2 c2) {i : Nat} {x : Ix} (hx : xs[i]? = some x) : EA w x.e.g x.e.id x.e.nm x.e.a x.e.b := Blk.ea (h.ix i x hx).1 rfl rfl rfl rfl (h.ix i x hx).2
theorem ens_at {e : En} {k : Nat} (h : (ens ts xs)[k]? = some e) : (∃ (i : Nat) (t : Tb), ts[i]? = some t ∧ t.e = e) ∨ (∃ (i : Nat) (x : Ix), xs[i]? = some x ∧ x.e = e) := by
  unfold ens at h
  by_cases hk : k < ts.length
  · rw [List.getElem?_append_left (by simpa using hk), List.getElem?_map] at h
    cases ht : ts[k]? with
    | none => rw [ht] at h; cases h
    | some t => rw [ht] at h; injection h with h; exact .inl ⟨k, t, ht, h⟩
  · rw [List.getElem?_append_right (by simp; omega), List.getElem?_map] at h
    cases hx : xs[k - (ts.map Tb.e).length]? with
    | none => rw [hx] at h; cases h
    | some x => rw [hx] at h; injection h with h; exact .inr ⟨_, x, hx, h⟩
theorem BF.ea (h : BF w F B ts xs last) {k : Nat} {e : En} (he : (ens ts xs)[k]? = some e) : EA w e.g e.id e.nm e.a e.b := by
  obtain ⟨A1, c1, A2, c2, h⟩ := h
  rcases ens_at he with ⟨i, t, ht, rfl⟩ | ⟨i, x, hx, rfl⟩
  · exact h.eaT ht
  · exact h.eaX hx
end
def gsE (es : List En) : List Nat := es.map En.g
theorem gs_ens (ts : List Tb) (xs : List Ix) : gsE (ens ts xs) = gsT ts ++ gsX xs := by simp only [gsE, ens, gsT, gsX, List.map_append, List.map_map]; rfl
/-- pointers of one's own, as a result -/
def PtrP (w : World) (e : TypeId) (l : List Nat) (E : Ending) (w' : World) : Prop := ∃ A c, E = .returned (.slice A l.length c) ∧ w'.ownsRow w.heap.size e 1 (.slice A l.length c) l.length (ptrs l) ∧ Below w.heap.size w w'
theorem entries_b {w : World} {F : Nat → Prop} {B last : Nat} {ts : List Tb} {xs : List Ix} (h : BF w F B ts xs last) (hl : ts.length ≤ 1000) (hl2 : xs.length ≤ 1000) : Calls Try.prog 83 #[.pointer (some ⟨B, 0, none⟩)] w (PtrP w 143 (gsT ts ++ gsX xs)) := by
  obtain ⟨A1, c1, A2, c2, h⟩ := h
  obtain ⟨n, hn⟩ : ∃ n, ts.length = n := ⟨_, rfl⟩
  obtain ⟨m, hm⟩ : ∃ m, xs.length = m := ⟨_, rfl⟩
  have HN := Lib.hid (And.intro hn hm)
  have HBA := Lib.hid h
  have hle1 := (own_le h.ownT).1
  have hcp1 := (own_le h.ownT).2
  have hle2 := (own_le h.ownX).1
  have hcp2 := (own_le h.ownX).2
  unfold maxLen at hcp1 hcp2
  have x0 : w.cell? ⟨B, 0, none⟩ = some (.slice A1 n c1) := by have := h.blk.cell 0; rw [hn] at this; exact this
  have x1 : w.cell? ⟨B, 1, none⟩ = some (.slice A2 m c2) := by have := h.blk.cell 1; rw [hm] at this; exact this
  have HX := Lib.hid (And.intro x0 x1)
  rw [hn] at hl hle1
  rw [hm] at hl2 hle2
  have HPT : ∀ k, k < n → Hid (∃ g d, (gsT ts)[k]? = some g ∧ A1 = some ⟨d, 0, none⟩ ∧ w.cell? ⟨d, k, none⟩ = some (.pointer (some ⟨g, 0, none⟩)) ∧ d < w.heap.size) := fun k hk => Lib.hid (by
    obtain ⟨g, hg⟩ : ∃ g, (gsT ts)[k]? = some g := ⟨_, List.getElem?_eq_getElem (by rw [gsT_len, HN.out.1]; exact hk)⟩
    obtain ⟨d, hA, hc⟩ := own_at HBA.out.ownT hg (by rw [HN.out.1]; exact hk)
    exact ⟨g, d, hg, hA, hc, (HBA.out.ownT.lt d (by rw [hA]; rfl)).2⟩)
  have HPX : ∀ k, k < m → Hid (∃ g d, (gsX xs)[k]? = some g ∧ A2 = some ⟨d, 0, none⟩ ∧ w.cell? ⟨d, k, none⟩ = some (.pointer (some ⟨g, 0, none⟩)) ∧ d < w.heap.size) := fun k hk => Lib.hid (by
    obtain ⟨g, hg⟩ : ∃ g, (gsX xs)[k]? = some g := ⟨_, List.getElem?_eq_getElem (by rw [gsX_len, HN.out.2]; exact hk)⟩
    obtain ⟨d, hA, hc⟩ := own_at HBA.out.ownX hg (by rw [HN.out.2]; exact hk)
    exact ⟨g, d, hg, hA, hc, (HBA.out.ownX.lt d (by rw [hA]; rfl)).2⟩)
  have HPT := Lib.hid HPT
  have HPX := Lib.hid HPX
  clear h hn hm
  go_enter Try.func83, Try.ntmps83
  go_wp2_with fail
  go_loopw [3, 13] (fun v i wr => ∃ (k : Nat) (A : Option Addr) (c : Nat), k ≤ n ∧ i = .int .i64 k ∧ v = .slice A k c ∧ wr.ownsRow w.heap.size 143 1 (.slice A k c) k (ptrs ((gsT ts).take k)) ∧ Below w.heap.size w wr) (fun _ i _ => n - (intOf i).toNat)
  case atStart => exact ⟨0, none, 0, by omega, rfl, rfl, World.ownsRow_nil _ _ _ _, Below.refl _ _⟩
  case round =>
    obtain ⟨k, A, c, hk, rfl, rfl, ho, hb⟩ := hrel
    have HO := Lib.hid ho
    have HB := Lib.hid hb
    clear ho hb x0 x1
    by_cases hlt : k < n
    · have hlt' : (k : Int) < n := by omega
      obtain ⟨g, d, hg, rfl, hc, hd⟩ := ((HPT.out) k hlt).out
      have y0 : wr.cell? ⟨d, k, none⟩ = some (.pointer (some ⟨g, 0, none⟩)) := (HB.out.cell (p := ⟨d, k, none⟩) hd).trans hc
      have hbs := HB.out.size
      have HT : Hid ((gsT ts).take (k + 1) = (gsT ts).take k ++ [g]) := Lib.hid (by rw [List.take_add_one, hg]; rfl)
      clear hg hc hd
      go_wp2_with (at_builtin; go_loud (refine wpl_app_pe rfl (.tmp 17) (.tmp 21) rfl w.heap.size _ k _ rfl (World.ownsRow.alloc HO.out _) _ _ 1 (ptrs [g]) rfl (lies_at _ #[.pointer (some ⟨g, 0, none⟩)] _ 1 1 wr.heap.size rfl rfl) (ptrs_one _) (by omega) (by rw [size_alloc]; omega) ?_; intro v1 w8 hown1 hg1; obtain ⟨A8, c8, hv1, _⟩ := Sl.of_own hown1; subst hv1))
      go_roundw
      case rel => exact ⟨k + 1, A8, c8, by omega, by go_num, by first | rfl | (congr 1), by rw [HT.out, ptrs_app]; exact hown1, (HB.out.trans ((bel_alloc wr _).mono HB.out.size)).trans (hg1.below (by rw [size_alloc]; omega) fun q hq => (HO.out.lt q hq).1)⟩
      case measure => simp [intOf]; omega
    · obtain rfl : k = n := by omega
      have HT : Hid (ptrs ((gsT ts).take k) = ptrs (gsT ts)) := Lib.hid (by rw [List.take_of_length_le (by rw [gsT_len, HN.out.1]; omega)])
      have x1 : wr.cell? ⟨B, 1, none⟩ = some (.slice A2 m c2) := (HB.out.cell (p := ⟨B, 1, none⟩) HBA.out.blk.lt).trans HX.out.2
      clear hlt hk
      go_wp2_with fail
      go_loopw [3, 29] (fun v i wq => ∃ (j : Nat) (A : Option Addr) (c : Nat), j ≤ m ∧ i = .int .i64 j ∧ v = .slice A (k + j) c ∧ wq.ownsRow w.heap.size 143 1 (.slice A (k + j) c) (k + j) (ptrs (gsT ts ++ (gsX xs).take j)) ∧ Below w.heap.size w wq) (fun _ i _ => m - (intOf i).toNat)
      case atStart => exact ⟨0, A, c, by omega, rfl, rfl, by rw [List.take_zero, List.append_nil, ← HT.out]; exact HO.out, HB.out⟩
      case round =>
        obtain ⟨j, A', c', hj, rfl, rfl, ho, hb⟩ := hrel
        have HO2 := Lib.hid ho
        have HB2 := Lib.hid hb
        clear ho hb x1
        by_cases hlt : j < m
        · have hlt' : (j : Int) < m := by omega
          obtain ⟨g, d, hg, rfl, hc, hd⟩ := ((HPX.out) j hlt).out
          have y0 : wr.cell? ⟨d, j, none⟩ = some (.pointer (some ⟨g, 0, none⟩)) := (HB2.out.cell (p := ⟨d, j, none⟩) hd).trans hc
          have hbs := HB2.out.size
          have HT2 : Hid ((gsX xs).take (j + 1) = (gsX xs).take j ++ [g]) := Lib.hid (by rw [List.take_add_one, hg]; rfl)
          clear hg hc hd
          go_wp2_with (at_builtin; go_loud (refine wpl_app_pe rfl (.tmp 33) (.tmp 37) rfl w.heap.size _ (k + j) _ rfl (World.ownsRow.alloc HO2.out _) _ _ 1 (ptrs [g]) rfl (lies_at _ #[.pointer (some ⟨g, 0, none⟩)] _ 1 1 wr.heap.size rfl rfl) (ptrs_one _) (by omega) (by rw [size_alloc]; omega) ?_; intro v1 w8 hown1 hg1; obtain ⟨A8, c8, hv1, _⟩ := Sl.of_own hown1; subst hv1))
          go_roundw
          case rel => exact ⟨j + 1, A8, c8, by omega, by go_num, by first | rfl | (congr 1), by rw [HT2.out, ← List.append_assoc, ptrs_app]; exact hown1, (HB2.out.trans ((bel_alloc wr _).mono HB2.out.size)).trans (hg1.below (by rw [size_alloc]; omega) fun q hq => (HO2.out.lt q hq).1)⟩
          case measure => simp [intOf]; omega
        · obtain rfl : j = m := by omega
          have HT2 : Hid ((gsX xs).take j = gsX xs) := Lib.hid (List.take_of_length_le (by rw [gsX_len, HN.out.2]; omega))
          clear hlt hj
          go_wp2_with fail
          go_ret
          have e : (gsT ts ++ gsX xs).length = k + j := by rw [List.length_append, gsT_len, gsX_len, HN.out.1, HN.out.2]
          unfold PtrP
          rw [e]
          have h2 := HO2.out
          rw [HT2.out] at h2
          exact ⟨A', c', rfl, h2, HB2.out⟩
end Go.Proofs.Ytnpmjljpaaaljaa.Bok
