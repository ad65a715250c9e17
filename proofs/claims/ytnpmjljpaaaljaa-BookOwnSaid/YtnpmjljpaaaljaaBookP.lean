/- book.end. -/
import Derived.Test.YtnpmjljpaaaljaaBookO
namespace Go.Proofs.Ytnpmjljpaaaljaa.Bok
open Go.ChangeMaps Go.MapKept Go.RowKit Go.Proofs.Ytnpmjljpaaaljaa.Nums Go.Proofs.Ytnpmjljpaaaljaa.Mem Go.Proofs.Ytnpmjljpaaaljaa.Clg
set_option linter.unusedVariables false
set_option linter.unusedSimpArgs false
set_option maxRecDepth 100000
set_option maxHeartbeats 1000000
def frB (f : Nat) (S : List Nat) (s : Sn) (e : En) : Bool := freeE f S s.own s.xmax s.run e.a e.b == 0
/-- these are entries of the book, their pointers in a slice of one's own -/
structure Gng (w : World) (F : Nat → Prop) (ts : List Tb) (xs : List Ix) (es : List En) (b : Nat) (A : Option Addr) (m c : Nat) : Prop where
  own : w.ownsRow b 143 1 (.slice A m c) m (ptrs (gsE es))
  len : es.length = m
  inn : ∀ e ∈ es, e ∈ ens ts xs
  far : ∀ g, (Value.slice A m c).ownBlock = some g → ¬ F g
theorem ens_is {ts : List Tb} {xs : List Ix} {e : En} (h : e ∈ ens ts xs) : IsE ts xs e.g := by
  unfold ens at h
  rw [List.mem_append] at h
  rcases h with h | h
  · obtain ⟨t, ht, rfl⟩ := List.mem_map.1 h
    exact .inl (List.mem_map.2 ⟨t, ht, rfl⟩)
  · obtain ⟨t, ht, rfl⟩ := List.mem_map.1 h
    exact .inr (List.mem_map.2 ⟨t, ht, rfl⟩)
section
variable {w w' : World} {F FL : Nat → Prop} {B P f n last b m c : Nat} {S : List Nat} {s : Sn} {ts : List Tb} {xs : List Ix} {es : List En} {A : Option Addr}
theorem Gng.keep (h : Gng w F ts xs es b A m c) (hk : ∀ g, (Value.slice A m c).ownBlock = some g → w'.heap[g]? = w.heap[g]?) : Gng w' F ts xs es b A m c := ⟨own_keep h.own hk, h.len, h.inn, h.far⟩
theorem Gng.below (h : Gng w F ts xs es b A m c) (hb : Below w.heap.size w w') : Gng w' F ts xs es b A m c := h.keep fun g hg => hb.block g (h.own.lt g hg).2
theorem Gng.turn (h : Gng w F ts xs es b A m c) (ht : Turn F w w') : Gng w' F ts xs es b A m c := h.keep fun g hg => ht.block g (h.own.lt g hg).2 (h.far g hg)
theorem Gng.at_ (h : Gng w F ts xs es b A m c) {k : Nat} (hk : k < m) : ∃ e d, es[k]? = some e ∧ e ∈ ens ts xs ∧ A = some ⟨d, 0, none⟩ ∧ w.cell? ⟨d, k, none⟩ = some (.pointer (some ⟨e.g, 0, none⟩)) := by
  obtain ⟨e, he⟩ : ∃ e, es[k]? = some e := ⟨_, List.getElem?_eq_getElem (by rw [h.len]; exact hk)⟩
  have hg : (gsE es)[k]? = some e.g := by unfold gsE; rw [List.getElem?_map, he]; rfl
  obtain ⟨d, hA, hc⟩ := own_at h.own hg hk
  exact ⟨e, d, he, h.inn e (List.mem_of_getElem? he), hA, hc⟩
theorem end_b (h : BF w F B ts xs last) (lk : Lk w FL P f S s n) (hg : Gng w F ts xs es b A m c) (hm0 : 0 < m) (hm : m ≤ 1000) (hso : s.own < 18446744073709551616) :
    Calls Try.prog 66 #[.pointer (some ⟨P, 0, none⟩), .agg #[.int .u64 (s.own : Int), .int .u64 (s.xmin : Int), .int .u64 (s.xmax : Int), .slice s.A n s.c], .slice A m c] w fun e w' =>
      ((∃ x ∈ es, frB f S s x = false) ∧ e = .returned (.tuple #[.int .u64 0, .int .i64 11]) ∧ Below w.heap.size w w') ∨ ((∀ x ∈ es, frB f S s x = true) ∧ (∃ x, es[0]? = some x ∧ e = .returned (.tuple #[.int .u64 (x.id : Int), .int .i64 0])) ∧ BF w' F B (stTs s.own (gsE es) ts) (stXs s.own (gsE es) xs) last ∧ Turn F w w') := by
  obtain ⟨T, hT⟩ : ∃ T, w.heap.size = T := ⟨_, rfl⟩
  obtain ⟨W1, hW1⟩ : ∃ W1, w.alloc (.cells #[.int .u64 (s.own : Int), .int .u64 (s.xmin : Int), .int .u64 (s.xmax : Int), .slice s.A n s.c] 48) = W1 := ⟨_, rfl⟩
  have hb1 : Below w.heap.size w W1 := by rw [← hW1]; exact bel_alloc _ _
  have hbT : Blk W1 T 48 #[.int .u64 (s.own : Int), .int .u64 (s.xmin : Int), .int .u64 (s.xmax : Int), .slice s.A n s.c] := by rw [← hW1, ← hT]; exact Blk.new w _ _
  have HB1 := Lib.hid hb1
  have HBT := Lib.hid hbT
  have HLK := Lib.hid (lk.below hb1)
  have HBF := Lib.hid (h.below hb1)
  have HG := Lib.hid (hg.below hb1)
  have HFT : Hid (¬ F T) := Lib.hid (fun k => by have := h.lt T k; omega)
  have HSO := Lib.hid hso
  have hle := (own_le hg.own).1
  have hcp := (own_le hg.own).2
  unfold maxLen at hcp
  have HWS := Lib.hid (And.intro hW1 hT)
  clear h lk hg hb1 hbT hW1 hT hso
  go_enter Try.func66, Try.ntmps66
  go_upto_region 1 with fail
  rw [HWS.out.1, HWS.out.2]
  go_wp2_with fail
  go_loopw [14] (fun i wr => ∃ k : Nat, k ≤ m ∧ i = .int .i64 k ∧ (∀ x ∈ es.take k, frB f S s x = true) ∧ Below W1.heap.size W1 wr) (fun i _ => m - (intOf i).toNat)
  case atStart => exact ⟨0, by omega, rfl, fun x hx => by simp at hx, Below.refl _ _⟩
  case round =>
    obtain ⟨k, hk, rfl, hfr, hb⟩ := hrel
    have HFR := Lib.hid hfr
    have HB := Lib.hid hb
    clear hfr hb
    by_cases hlt : k < m
    · have hlt' : (k : Int) < m := by omega
      obtain ⟨e, d, he, hin, rfl, y0⟩ := (HG.out.below HB.out).at_ hlt
      obtain ⟨i, hi⟩ := List.getElem?_of_mem hin
      have hea := (HBF.out.below HB.out).ea hi
      have CF := Lib.hid (free_e (HLK.out.below HB.out) hea)
      obtain ⟨t0, t1, t2, t3⟩ := cells4 (HBT.out.below HB.out HBT.out.lt)
      obtain ⟨p, hp⟩ : ∃ p, frB f S s e = p := ⟨_, rfl⟩
      have HP := Lib.hid hp
      have HE := Lib.hid he
      obtain ⟨g, id, nm, a, bb⟩ := e
      replace CF : Hid (Calls Try.prog 87 #[.pointer (some ⟨g, 0, none⟩), .pointer (some ⟨P, 0, none⟩), .agg #[.int .u64 (s.own : Int), .int .u64 (s.xmin : Int), .int .u64 (s.xmax : Int), .slice s.A n s.c]] wr (BoolP wr p)) := Lib.hid (by rw [← hp]; exact CF.out)
      clear he hin hi hea hp
      cases p
      · go_wp2_with fail
        refine CF.out.mono ?_
        rintro e w3 ⟨rfl, hb3⟩
        have HB3 := Lib.hid (HB1.out.trans ((HB.out.trans (hb3.mono HB.out.size)).mono HB1.out.size))
        clear hb3
        go_wp2_with fail
        go_ret2
        exact .inl ⟨⟨_, List.mem_of_getElem? HE.out, HP.out⟩, rfl, HB3.out⟩
      · go_wp2_with fail
        refine CF.out.mono ?_
        rintro e w3 ⟨rfl, hb3⟩
        have HB3 := Lib.hid (HB.out.trans (hb3.mono HB.out.size))
        clear hb3
        go_wp2_with fail
        go_roundw
        case rel => exact ⟨k + 1, by omega, by go_num, fun x hx => by
          rw [take_next HE.out, List.mem_append, List.mem_singleton] at hx
          rcases hx with hx | rfl
          · exact HFR.out x hx
          · exact HP.out, HB3.out⟩
        case measure => simp [intOf]; omega
    · obtain rfl : k = m := by omega
      have HALL : Hid (∀ x ∈ es, frB f S s x = true) := Lib.hid (by have h := HFR.out; rwa [List.take_of_length_le (by rw [HG.out.len]; exact Nat.le_refl _)] at h)
      have HG2 := Lib.hid (HG.out.below HB.out)
      have HBF2 := Lib.hid (HBF.out.below HB.out)
      have HBT2 := Lib.hid (HBT.out.below HB.out HBT.out.lt)
      have HB2 := Lib.hid (HB1.out.trans (HB.out.mono HB1.out.size))
      obtain ⟨e0, d, he0, hin0, rfl, _⟩ := HG2.out.at_ hm0
      obtain ⟨i0, hi0⟩ := List.getElem?_of_mem hin0
      have HID : Hid (wr.cell? ⟨e0.g, 0, none⟩ = some (.int .u64 (e0.id : Int))) := Lib.hid (HBF2.out.ea hi0).c0
      have HE0 := Lib.hid (And.intro he0 (ens_is hin0))
      obtain ⟨w2, hw2⟩ : ∃ w2, w2 = wr := ⟨_, rfl⟩
      rw [← hw2] at HG2 HBF2 HBT2 HB2 HID ⊢
      clear hlt hk HB HFR HBT HLK HBF HG HB1 hin0 hi0 he0
      clear hw2
      go_wp2_with fail
      go_loopw [26] (fun i wq => ∃ j : Nat, j ≤ k ∧ i = .int .i64 j ∧ BF wq F B (stTs s.own ((gsE es).take j) ts) (stXs s.own ((gsE es).take j) xs) last ∧ Turn F w2 wq ∧ wq.cell? ⟨e0.g, 0, none⟩ = some (.int .u64 (e0.id : Int))) (fun i _ => k - (intOf i).toNat)
      case atStart => exact ⟨0, by omega, rfl, by rw [List.take_zero]; exact HBF2.out, Turn.refl _ _, HID.out⟩
      case round =>
        obtain ⟨j, hj, rfl, hbf, htu, hid⟩ := hrel
        have HBQ := Lib.hid hbf
        have HTU := Lib.hid htu
        have HIQ := Lib.hid hid
        clear hbf htu hid
        have HGQ := Lib.hid (HG2.out.turn HTU.out)
        have HBTQ : Hid (Blk wr T 48 #[.int .u64 (s.own : Int), .int .u64 (s.xmin : Int), .int .u64 (s.xmax : Int), .slice s.A n s.c]) := Lib.hid (HTU.out.blk HBT2.out HFT.out)
        by_cases hlt : j < k
        · have hlt' : (j : Int) < k := by omega
          obtain ⟨e, d', he, hin, hd', y0⟩ := HGQ.out.at_ hlt
          injection hd' with hd'
          injection hd' with hd'
          subst hd'
          have t0 := HBTQ.out.cell 0
          have hise : IsE (stTs s.own ((gsE es).take j) ts) (stXs s.own ((gsE es).take j) xs) e.g := (ens_is hin).st
          obtain ⟨A1, c1, A2, c2, hA⟩ := HBQ.out
          have HST := Lib.hid (hA.stamp hise HSO.out)
          have HFE := Lib.hid (hA.inF hise)
          have hgt : (gsE es).take (j + 1) = (gsE es).take j ++ [e.g] := by
            have : (gsE es)[j]? = some e.g := by unfold gsE; rw [List.getElem?_map, he]; rfl
            rw [List.take_add_one, this]
            rfl
          have HGT := Lib.hid hgt
          have hfz : wr.frozen? ⟨e.g, 3, none⟩ = false ∧ (∃ u, wr.cell? ⟨e.g, 3, none⟩ = some u) ∧ (wr.setCell ⟨e.g, 3, none⟩ (.int .u64 (s.own : Int))).cell? ⟨e0.g, 0, none⟩ = some (.int .u64 (e0.id : Int)) := by
            have key : ∀ {t : TypeId} {cs : Array Value}, Blk wr e.g t cs → 4 ≤ cs.size → wr.frozen? ⟨e.g, 3, none⟩ = false ∧ (∃ u, wr.cell? ⟨e.g, 3, none⟩ = some u) ∧ (wr.setCell ⟨e.g, 3, none⟩ (.int .u64 (s.own : Int))).cell? ⟨e0.g, 0, none⟩ = some (.int .u64 (e0.id : Int)) := fun hb hs => by
              refine ⟨hb.frozen 3, ⟨_, (hb.cell 3).trans (Array.getElem?_eq_getElem (by omega))⟩, ?_⟩
              by_cases e9 : e0.g = e.g
              · have h9 := HIQ.out
                rw [e9] at h9 ⊢
                have h8 := (Blk.set_ hb 3 (.int .u64 (s.own : Int))).cell 0
                have h7 := hb.cell 0
                rw [h9] at h7
                rw [h8, Array.getElem?_setIfInBounds_ne (by omega)]
                exact h7.symm
              · rw [← HIQ.out]
                exact cell_same (RowKit.Below.heap_setCell wr ⟨e.g, 3, none⟩ _ _ e9)
            rcases hA.typ hise with ⟨cs, hb, hs⟩ | ⟨cs, hb, hs⟩
            · exact key hb hs
            · exact key hb hs
          obtain ⟨f3, ⟨u3, z3⟩, hz⟩ := hfz
          have HZ := Lib.hid hz
          have HT3 : Hid (Turn F w2 (wr.setCell ⟨e.g, 3, none⟩ (.int .u64 (s.own : Int)))) := Lib.hid (HTU.out.set_ (p := ⟨e.g, 3, none⟩) (.inl HFE.out) _)
          clear he hin hise hA hgt hz
          go_wp2_with fail
          go_roundw
          case rel => exact ⟨j + 1, by omega, by go_num, by rw [HGT.out, stTs_snoc, stXs_snoc]; exact ⟨A1, c1, A2, c2, HST.out⟩, HT3.out, HZ.out⟩
          case measure => simp [intOf]; omega
        · obtain rfl : j = k := by omega
          have HTK : Hid ((gsE es).take j = gsE es) := Lib.hid (List.take_of_length_le (by unfold gsE; rw [List.length_map, HGQ.out.len]; exact Nat.le_refl _))
          have hm0' : (0 : Int) < j := by omega
          obtain ⟨e, d', he, hin, hd', y0⟩ := HGQ.out.at_ hm0
          injection hd' with hd'
          injection hd' with hd'
          subst hd'
          have hee : e = e0 := by have h := HE0.out.1; rw [he] at h; injection h
          subst hee
          have z0 := HIQ.out
          clear hlt hj he hin
          go_wp2_with fail
          go_ret2
          refine .inr ⟨HALL.out, ⟨e, HE0.out.1, rfl⟩, ?_, Turn.trans (Turn.of_below HB2.out) HTU.out⟩
          have h := HBQ.out
          rwa [HTK.out] at h
end
end Go.Proofs.Ytnpmjljpaaaljaa.Bok
