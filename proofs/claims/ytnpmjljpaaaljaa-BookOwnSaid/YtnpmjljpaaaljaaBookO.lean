/- book.end: stamping entries, all of them or none. -/
import Derived.Test.YtnpmjljpaaaljaaBookN
namespace Go.Proofs.Ytnpmjljpaaaljaa.Bok
open Go.ChangeMaps Go.MapKept Go.RowKit Go.Proofs.Ytnpmjljpaaaljaa.Nums Go.Proofs.Ytnpmjljpaaaljaa.Mem Go.Proofs.Ytnpmjljpaaaljaa.Clg
set_option linter.unusedVariables false
set_option linter.unusedSimpArgs false
set_option maxRecDepth 100000
set_option maxHeartbeats 1000000
def stE (own g : Nat) (e : En) : En := if e.g = g then ⟨e.g, e.id, e.nm, e.a, own⟩ else e
def stT (own g : Nat) (t : Tb) : Tb := ⟨stE own g t.e, t.d, t.c⟩
def stX (own g : Nat) (x : Ix) : Ix := ⟨stE own g x.e, x.t, x.k⟩
theorem stE_g (own g : Nat) (e : En) : (stE own g e).g = e.g := by unfold stE; split <;> rfl
theorem stE_id (own g : Nat) (e : En) : (stE own g e).id = e.id := by unfold stE; split <;> rfl
/-- stamped, one behind the other -/
def stTs (own : Nat) (gs : List Nat) (ts : List Tb) : List Tb := gs.foldl (fun l g => l.map (stT own g)) ts
def stXs (own : Nat) (gs : List Nat) (xs : List Ix) : List Ix := gs.foldl (fun l g => l.map (stX own g)) xs
theorem stTs_snoc (own g : Nat) (gs : List Nat) (ts : List Tb) : stTs own (gs ++ [g]) ts = (stTs own gs ts).map (stT own g) := by simp [stTs]
theorem stXs_snoc (own g : Nat) (gs : List Nat) (xs : List Ix) : stXs own (gs ++ [g]) xs = (stXs own gs xs).map (stX own g) := by simp [stXs]
theorem gsT_st (own g : Nat) (ts : List Tb) : gsT (ts.map (stT own g)) = gsT ts := by
  unfold gsT
  rw [List.map_map]
  apply List.map_congr_left
  intro t _
  exact stE_g own g t.e
theorem gsX_st (own g : Nat) (xs : List Ix) : gsX (xs.map (stX own g)) = gsX xs := by
  unfold gsX
  rw [List.map_map]
  apply List.map_congr_left
  intro t _
  exact stE_g own g t.e
theorem gsT_sts (own : Nat) : ∀ (gs : List Nat) (ts : List Tb), gsT (stTs own gs ts) = gsT ts
  | [], ts => rfl
  | g :: gs, ts => by
    show gsT (stTs own gs (ts.map (stT own g))) = _
    rw [gsT_sts own gs, gsT_st]
theorem gsX_sts (own : Nat) : ∀ (gs : List Nat) (xs : List Ix), gsX (stXs own gs xs) = gsX xs
  | [], xs => rfl
  | g :: gs, xs => by
    show gsX (stXs own gs (xs.map (stX own g))) = _
    rw [gsX_sts own gs, gsX_st]
theorem stTs_len (own : Nat) (gs : List Nat) (ts : List Tb) : (stTs own gs ts).length = ts.length := by rw [← gsT_len, gsT_sts, gsT_len]
theorem stXs_len (own : Nat) (gs : List Nat) (xs : List Ix) : (stXs own gs xs).length = xs.length := by rw [← gsX_len, gsX_sts, gsX_len]
section
variable {w : World} {F FL : Nat → Prop} {B P f n last own g : Nat} {S : List Nat} {s : Sn} {ts : List Tb} {xs : List Ix} {A1 A2 : Option Addr} {c1 c2 : Nat}
/-- block g is an entry's -/
def IsE (ts : List Tb) (xs : List Ix) (g : Nat) : Prop := g ∈ gsT ts ∨ g ∈ gsX xs
theorem BA.typ (h : BA w F B ts xs last A1 c1 A2 c2) (hg : IsE ts xs g) : (∃ cs, Blk w g 141 cs ∧ 4 ≤ cs.size) ∨ (∃ cs, Blk w g 149 cs ∧ 4 ≤ cs.size) := by
  rcases hg with hg | hg
  · obtain ⟨t, ht, rfl⟩ := List.mem_map.1 hg
    obtain ⟨i, hi⟩ := List.getElem?_of_mem ht
    exact .inl ⟨_, (h.tb i t hi).1, by show 4 ≤ 5; omega⟩
  · obtain ⟨t, ht, rfl⟩ := List.mem_map.1 hg
    obtain ⟨i, hi⟩ := List.getElem?_of_mem ht
    exact .inr ⟨_, (h.ix i t hi).1, by show 4 ≤ 6; omega⟩
theorem BA.inF (h : BA w F B ts xs last A1 c1 A2 c2) (hg : IsE ts xs g) : F g := by
  rcases hg with hg | hg
  · obtain ⟨t, ht, rfl⟩ := List.mem_map.1 hg
    obtain ⟨i, hi⟩ := List.getElem?_of_mem ht
    exact (h.fT i t hi).1
  · obtain ⟨t, ht, rfl⟩ := List.mem_map.1 hg
    obtain ⟨i, hi⟩ := List.getElem?_of_mem ht
    exact h.fX i t hi
/-- one entry is stamped -/
theorem BA.stamp (h : BA w F B ts xs last A1 c1 A2 c2) (hg : IsE ts xs g) (ho : own < 18446744073709551616) : BA (w.setCell ⟨g, 3, none⟩ (.int .u64 (own : Int))) F B (ts.map (stT own g)) (xs.map (stX own g)) last A1 c1 A2 c2 := by
  have hsz : (w.setCell ⟨g, 3, none⟩ (.int .u64 (own : Int))).heap.size = w.heap.size := by simp [World.setCell]
  have keep : ∀ {q : Nat} {t : TypeId} {cs : Array Value}, Blk w q t cs → q ≠ g → Blk (w.setCell ⟨g, 3, none⟩ (.int .u64 (own : Int))) q t cs := fun hb hne => (RowKit.Below.heap_setCell w ⟨g, 3, none⟩ _ _ hne).trans hb
  have hty := h.typ hg
  have other : ∀ {q : Nat} {t : TypeId} {cs : Array Value}, Blk w q t cs → t ≠ 141 → t ≠ 149 → Blk (w.setCell ⟨g, 3, none⟩ (.int .u64 (own : Int))) q t cs := fun hb h1 h2 => keep hb (by
    rcases hty with ⟨cs, hc, _⟩ | ⟨cs, hc, _⟩
    · exact hb.ne_ hc h1
    · exact hb.ne_ hc h2)
  have oth2 : ∀ {e : TypeId} {v : Value} {m : Nat} {ys : List Value}, w.ownsRow 0 e 1 v m ys → e ≠ 141 → e ≠ 149 → (w.setCell ⟨g, 3, none⟩ (.int .u64 (own : Int))).ownsRow 0 e 1 v m ys := fun hy h1 h2 => own_keep hy fun q hq => RowKit.Below.heap_setCell _ _ _ _ (fun e2 => by
    rcases hty with ⟨cs, hc, _⟩ | ⟨cs, hc, _⟩
    · exact own_blk_ne hy hc h1 (by rw [hq, e2])
    · exact own_blk_ne hy hc h2 (by rw [hq, e2]))
  have getT : ∀ (i : Nat) (t : Tb), (ts.map (stT own g))[i]? = some t → ∃ u, ts[i]? = some u ∧ t = stT own g u := by
    intro i t hi
    rw [List.getElem?_map] at hi
    cases hu : ts[i]? with
    | none => rw [hu] at hi; cases hi
    | some u => rw [hu] at hi; injection hi with hi; exact ⟨u, rfl, hi.symm⟩
  have getX : ∀ (i : Nat) (t : Ix), (xs.map (stX own g))[i]? = some t → ∃ u, xs[i]? = some u ∧ t = stX own g u := by
    intro i t hi
    rw [List.getElem?_map] at hi
    cases hu : xs[i]? with
    | none => rw [hu] at hi; cases hi
    | some u => rw [hu] at hi; injection hi with hi; exact ⟨u, rfl, hi.symm⟩
  refine ⟨?_, ?_, ?_, fun i t hi => ?_, fun i x hi => ?_, fun i j t u hi hj hne => ?_, fun i j t u hi hj hne => ?_, h.fB, ?_, ?_, fun i t hi => ?_, fun i x hi => ?_, fun q hq => by rw [hsz]; exact h.lt q hq, h.top⟩
  · rw [List.length_map, List.length_map]; exact other h.blk (by decide) (by decide)
  · rw [List.length_map, gsT_st]; exact oth2 h.ownT (by decide) (by decide)
  · rw [List.length_map, gsX_st]; exact oth2 h.ownX (by decide) (by decide)
  · obtain ⟨u, hu, rfl⟩ := getT i t hi
    obtain ⟨k1, k2, k3⟩ := h.tb i u hu
    refine ⟨?_, ?_, ?_⟩
    · by_cases e : u.e.g = g
      · subst e
        have h5 : (stT own u.e.g u).cells = u.cells.setIfInBounds 3 (.int .u64 (own : Int)) := by unfold stT stE Tb.cells; rw [if_pos rfl]; rfl
        rw [h5]
        show Blk _ (stE own u.e.g u.e).g _ _
        rw [stE_g]
        exact Blk.set_ k1 3 _
      · have h5 : stT own g u = u := by unfold stT stE; rw [if_neg e]
        rw [h5]
        exact keep k1 e
    · show (stE own g u.e).ok
      unfold stE
      split
      · exact ⟨k2.id, k2.a, ho⟩
      · exact k2
    · obtain ⟨cs, hcs⟩ := k3.bk
      exact k3.keep ((other hcs (by decide) (by decide)).trans hcs.symm) (by rw [hsz]; exact Nat.le_refl _)
  · obtain ⟨u, hu, rfl⟩ := getX i x hi
    obtain ⟨k1, k2⟩ := h.ix i u hu
    refine ⟨?_, ?_⟩
    · by_cases e : u.e.g = g
      · subst e
        have h5 : (stX own u.e.g u).cells = u.cells.setIfInBounds 3 (.int .u64 (own : Int)) := by unfold stX stE Ix.cells; rw [if_pos rfl]; rfl
        rw [h5]
        show Blk _ (stE own u.e.g u.e).g _ _
        rw [stE_g]
        exact Blk.set_ k1 3 _
      · have h5 : stX own g u = u := by unfold stX stE; rw [if_neg e]
        rw [h5]
        exact keep k1 e
    · show (stE own g u.e).ok
      unfold stE
      split
      · exact ⟨k2.id, k2.a, ho⟩
      · exact k2
  · obtain ⟨u1, hu1, rfl⟩ := getT i t hi
    obtain ⟨u2, hu2, rfl⟩ := getT j u hj
    show (stE own g u1.e).g ≠ (stE own g u2.e).g
    rw [stE_g, stE_g]
    exact h.apT i j u1 u2 hu1 hu2 hne
  · obtain ⟨u1, hu1, rfl⟩ := getX i t hi
    obtain ⟨u2, hu2, rfl⟩ := getX j u hj
    show (stE own g u1.e).g ≠ (stE own g u2.e).g
    rw [stE_g, stE_g]
    exact h.apX i j u1 u2 hu1 hu2 hne
  · rw [List.length_map]; exact h.f1
  · rw [List.length_map]; exact h.f2
  · obtain ⟨u, hu, rfl⟩ := getT i t hi
    exact ⟨by show F (stE own g u.e).g; rw [stE_g]; exact (h.fT i u hu).1, (h.fT i u hu).2⟩
  · obtain ⟨u, hu, rfl⟩ := getX i x hi
    show F (stE own g u.e).g
    rw [stE_g]
    exact h.fX i u hu
theorem IsE.st {gs : List Nat} (h : IsE ts xs g) : IsE (stTs own gs ts) (stXs own gs xs) g := by
  unfold IsE at *
  rw [gsT_sts, gsX_sts]
  exact h
end
end Go.Proofs.Ytnpmjljpaaaljaa.Bok
