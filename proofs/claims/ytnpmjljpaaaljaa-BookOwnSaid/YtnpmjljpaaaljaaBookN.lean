/- book.Book: find, of. -/
import Derived.Test.YtnpmjljpaaaljaaBookK
namespace Go.Proofs.Ytnpmjljpaaaljaa.Bok
open Go.ChangeMaps Go.MapKept Go.RowKit Go.Proofs.Ytnpmjljpaaaljaa.Nums Go.Proofs.Ytnpmjljpaaaljaa.Mem Go.Proofs.Ytnpmjljpaaaljaa.Clg
set_option linter.unusedVariables false
set_option linter.unusedSimpArgs false
set_option maxRecDepth 100000
set_option maxHeartbeats 1000000
/-- the table of a name that is visible -/
def fnd (f : Nat) (S : List Nat) (s : Sn) (name : ByteArray) (ts : List Tb) : Option Tb := ts.find? fun t => nmB f S s name t.e
def fndV : Option Tb → Value
  | none => .pointer none
  | some t => .pointer (some ⟨t.e.g, 0, none⟩)
theorem fnd_at {f : Nat} {S : List Nat} {s : Sn} {name : ByteArray} {t : Tb} : ∀ {ts : List Tb} {k : Nat}, ts[k]? = some t → (∀ x ∈ ts.take k, nmB f S s name x.e = false) → nmB f S s name t.e = true → fnd f S s name ts = some t
  | [], k, h, _, _ => by simp at h
  | x :: ts, 0, h, _, ht => by
    simp at h
    subst h
    unfold fnd
    exact List.find?_cons_of_pos (p := fun t : Tb => nmB f S s name t.e) ht
  | x :: ts, k + 1, h, hn, ht => by
    unfold fnd
    rw [List.find?_cons_of_neg (p := fun t : Tb => nmB f S s name t.e) (by show ¬ nmB f S s name x.e = true; rw [hn x (by simp)]; simp)]
    exact fnd_at (by simpa using h) (fun y hy => hn y (by simp [hy])) ht
theorem fnd_none {f : Nat} {S : List Nat} {s : Sn} {name : ByteArray} {ts : List Tb} (h : ∀ x ∈ ts, nmB f S s name x.e = false) : fnd f S s name ts = none := by
  unfold fnd
  rw [List.find?_eq_none]
  intro x hx
  rw [h x hx]
  simp
section
variable {w : World} {F FL : Nat → Prop} {B P f n last : Nat} {S : List Nat} {s : Sn} {ts : List Tb} {xs : List Ix}
theorem find_b (h : BF w F B ts xs last) (lk : Lk w FL P f S s n) (hl : ts.length ≤ 1000) (name : ByteArray) :
    Calls Try.prog 63 #[.pointer (some ⟨B, 0, none⟩), .pointer (some ⟨P, 0, none⟩), .agg #[.int .u64 (s.own : Int), .int .u64 (s.xmin : Int), .int .u64 (s.xmax : Int), .slice s.A n s.c], .string name] w fun e w' => e = .returned (fndV (fnd f S s name ts)) ∧ Below w.heap.size w w' := by
  obtain ⟨T, hT⟩ : ∃ T, w.heap.size = T := ⟨_, rfl⟩
  obtain ⟨W1, hW1⟩ : ∃ W1, w.alloc (.cells #[.int .u64 (s.own : Int), .int .u64 (s.xmin : Int), .int .u64 (s.xmax : Int), .slice s.A n s.c] 48) = W1 := ⟨_, rfl⟩
  have hb1 : Below w.heap.size w W1 := by rw [← hW1]; exact bel_alloc _ _
  have hbT : Blk W1 T 48 #[.int .u64 (s.own : Int), .int .u64 (s.xmin : Int), .int .u64 (s.xmax : Int), .slice s.A n s.c] := by rw [← hW1, ← hT]; exact Blk.new w _ _
  obtain ⟨A1, c1, A2, c2, hA0⟩ := h.below hb1
  have HB1 := Lib.hid hb1
  have HBT := Lib.hid hbT
  have HLK := Lib.hid (lk.below hb1)
  have HA := Lib.hid hA0
  obtain ⟨N, hN⟩ : ∃ N, ts.length = N := ⟨_, rfl⟩
  have HN := Lib.hid hN
  have hle := (own_le hA0.ownT).1
  have hcp := (own_le hA0.ownT).2
  unfold maxLen at hcp
  rw [hN] at hl hle
  have x0 : W1.cell? ⟨B, 0, none⟩ = some (.slice A1 N c1) := by have := hA0.blk.cell 0; rw [hN] at this; exact this
  have HWS := Lib.hid (And.intro hW1 hT)
  clear h lk hb1 hbT hW1 hT hA0 hN
  go_enter Try.func63, Try.ntmps63
  go_upto_region 1 with fail
  rw [HWS.out.1, HWS.out.2]
  go_wp2_with fail
  go_loopw [18] (fun i wr => ∃ k : Nat, k ≤ N ∧ i = .int .i64 k ∧ (∀ x ∈ ts.take k, nmB f S s name x.e = false) ∧ Below W1.heap.size W1 wr) (fun i _ => N - (intOf i).toNat)
  case atStart => exact ⟨0, by omega, rfl, fun x hx => by simp at hx, Below.refl _ _⟩
  case round =>
    obtain ⟨k, hk, rfl, hno, hb⟩ := hrel
    have HNO := Lib.hid hno
    have HB := Lib.hid hb
    clear hno hb x0
    by_cases hlt : k < N
    · have hlt' : (k : Int) < N := by omega
      obtain ⟨t, ht⟩ : ∃ t, ts[k]? = some t := ⟨_, List.getElem?_eq_getElem (by rw [HN.out]; exact hlt)⟩
      have hg : (gsT ts)[k]? = some t.e.g := by unfold gsT; rw [List.getElem?_map, ht]; rfl
      obtain ⟨d, rfl, hc⟩ := own_at HA.out.ownT hg (by rw [HN.out]; exact hlt)
      have y0 : wr.cell? ⟨d, k, none⟩ = some (.pointer (some ⟨t.e.g, 0, none⟩)) := (HB.out.cell (p := ⟨d, k, none⟩) (HA.out.ownT.lt d rfl).2).trans hc
      have HBD := Lib.hid (bel_trans HB.out ((bel_drew wr).mono (Nat.le_refl _)))
      have hbd : Below W1.heap.size W1 wr.drew := bel_dr HB.out
      have HTD := Lib.hid (HBT.out.below hbd HBT.out.lt)
      have X0 := Lib.hid (cells4 (HBT.out.below HB.out HBT.out.lt))
      obtain ⟨t0, t1, t2, t3⟩ := X0.out
      have CN := Lib.hid (named_e (HLK.out.below hbd) ((HA.out.eaT ht).below hbd) name)
      obtain ⟨⟨g, id, nm, a, b⟩, cd, cc⟩ := t
      obtain ⟨p, hp⟩ : ∃ p, namedB f S s nm name a b = p := ⟨_, rfl⟩
      have HP : Hid (nmB f S s name ⟨g, id, nm, a, b⟩ = p) := Lib.hid hp
      have HT' := Lib.hid ht
      replace CN : Hid (Calls Try.prog 70 #[.pointer (some ⟨g, 0, none⟩), .pointer (some ⟨P, 0, none⟩), .agg #[.int .u64 (s.own : Int), .int .u64 (s.xmin : Int), .int .u64 (s.xmax : Int), .slice s.A n s.c], .string name] wr.drew (BoolP wr.drew p)) := Lib.hid (by rw [← hp]; exact CN.out)
      clear ht hg hc hp hbd
      go_upto_region 6 with fail
      go_region_held3 (fun w' => w'.cell? ⟨T, 0, none⟩ = some (.int .u64 (s.own : Int)) ∧ w'.cell? ⟨T, 1, none⟩ = some (.int .u64 (s.xmin : Int)) ∧ w'.cell? ⟨T, 2, none⟩ = some (.int .u64 (s.xmax : Int)) ∧ w'.cell? ⟨T, 3, none⟩ = some (.slice s.A n s.c)) (first | with_reducible exact X3.out | with_reducible exact X0.out | go_keep)
        (first
          | (go_at_call 70; refine CN.out.mono ?_; rintro e w3 ⟨rfl, hb3⟩; have X3 := Lib.hid (cells4 (HTD.out.below hb3 HTD.out.lt)); have HB3 := Lib.hid ((bel_dr HB.out).trans (hb3.mono (bel_dr HB.out).size)); clear hb3))
      cases p
      · go_wp2_with fail
        go_roundw
        case rel => exact ⟨k + 1, by omega, by go_num, fun x hx => by
          rw [List.take_add_one, HT'.out] at hx
          rw [List.mem_append] at hx
          rcases hx with hx | hx
          · exact HNO.out x hx
          · simp at hx; subst hx; exact HP.out, HB3.out⟩
        case measure => simp [intOf]; omega
      · have HR := Lib.hid (fnd_at HT'.out HNO.out HP.out)
        go_wp2_with fail
        go_ret
        exact ⟨by rw [HR.out]; rfl, HB1.out.trans (HB3.out.mono HB1.out.size)⟩
    · obtain rfl : k = N := by omega
      have HR : Hid (fnd f S s name ts = none) := Lib.hid (fnd_none (by have h := HNO.out; rwa [List.take_of_length_le (by rw [HN.out]; exact Nat.le_refl _)] at h))
      go_wp2_with fail
      go_ret
      exact ⟨by rw [HR.out]; rfl, HB1.out.trans (HB.out.mono HB1.out.size)⟩
def ofX (xs : List Ix) (id : Nat) : List Ix := xs.filter fun x => x.t == id
theorem of_next {xs : List Ix} {k : Nat} {x : Ix} (h : xs[k]? = some x) (id : Nat) : ofX (xs.take (k + 1)) id = ofX (xs.take k) id ++ if x.t = id then [x] else [] := by
  unfold ofX
  rw [List.take_add_one, h, List.filter_append]
  congr 1
  by_cases e : x.t = id
  · rw [if_pos e]; simp [e]
  · rw [if_neg e]; simp [e]
theorem of_b (h : BF w F B ts xs last) (hl : xs.length ≤ 1000) (id : Nat) (hxt : ∀ x ∈ xs, x.t ≤ 1000000) (hid : id ≤ 1000000) :
    Calls Try.prog 64 #[.pointer (some ⟨B, 0, none⟩), .int .u64 (id : Int)] w (PtrP w 146 (gsX (ofX xs id))) := by
  obtain ⟨A1, c1, A2, c2, hA0⟩ := h
  have HA := Lib.hid hA0
  obtain ⟨N, hN⟩ : ∃ N, xs.length = N := ⟨_, rfl⟩
  have HN := Lib.hid hN
  have hle := (own_le hA0.ownX).1
  have hcp := (own_le hA0.ownX).2
  unfold maxLen at hcp
  rw [hN] at hl hle
  have x0 : w.cell? ⟨B, 1, none⟩ = some (.slice A2 N c2) := by have := hA0.blk.cell 1; rw [hN] at this; exact this
  have HXT := Lib.hid hxt
  have hid0 : (id : Int) ≤ 1000000 := by omega
  clear hA0 hN hxt hid
  go_enter Try.func64, Try.ntmps64
  go_wp2_with fail
  go_loopw [5, 15] (fun v i wr => ∃ (k m : Nat) (A : Option Addr) (c : Nat), k ≤ N ∧ m ≤ k ∧ i = .int .i64 k ∧ v = .slice A m c ∧ (ofX (xs.take k) id).length = m ∧ wr.ownsRow w.heap.size 146 1 (.slice A m c) m (ptrs (gsX (ofX (xs.take k) id))) ∧ Below w.heap.size w wr) (fun _ i _ => N - (intOf i).toNat)
  case atStart => exact ⟨0, 0, none, 0, by omega, by omega, rfl, rfl, rfl, World.ownsRow_nil _ _ _ _, Below.refl _ _⟩
  case round =>
    obtain ⟨k, m, A, c, hk, hmk, rfl, rfl, hm, ho, hb⟩ := hrel
    have HO := Lib.hid ho
    have HB := Lib.hid hb
    have HM := Lib.hid hm
    clear ho hb hm x0
    by_cases hlt : k < N
    · have hlt' : (k : Int) < N := by omega
      obtain ⟨x, hx⟩ : ∃ x, xs[k]? = some x := ⟨_, List.getElem?_eq_getElem (by rw [HN.out]; exact hlt)⟩
      have hg : (gsX xs)[k]? = some x.e.g := by unfold gsX; rw [List.getElem?_map, hx]; rfl
      obtain ⟨d, rfl, hc⟩ := own_at HA.out.ownX hg (by rw [HN.out]; exact hlt)
      have y0 : wr.cell? ⟨d, k, none⟩ = some (.pointer (some ⟨x.e.g, 0, none⟩)) := (HB.out.cell (p := ⟨d, k, none⟩) (HA.out.ownX.lt d rfl).2).trans hc
      have y4 : wr.cell? ⟨x.e.g, 4, none⟩ = some (.int .u64 (x.t : Int)) := (Blk.below (HA.out.ix k x hx).1 HB.out (Blk.lt (HA.out.ix k x hx).1)).cell 4
      have hxb : (x.t : Int) ≤ 1000000 := by have := HXT.out x (List.mem_of_getElem? hx); omega
      have HF := Lib.hid (of_next hx id)
      have hbs := HB.out.size
      obtain ⟨⟨g, xid, nm, a, b⟩, tt, kk⟩ := x
      clear hx hg hc
      by_cases he : tt = id
      · have q1 : ((tt : Int) == (id : Int)) = true := by rw [beq_iff_eq]; omega
        have HF2 : Hid (ofX (xs.take (k + 1)) id = ofX (xs.take k) id ++ [⟨⟨g, xid, nm, a, b⟩, tt, kk⟩]) := Lib.hid (by rw [HF.out, if_pos he])
        clear he
        go_wp2_with (at_builtin; go_loud (refine wpl_app_px rfl (.tmp 25) (.tmp 27) rfl w.heap.size _ m _ rfl (World.ownsRow.alloc HO.out _) _ _ 1 (ptrs [g]) rfl (lies_at _ #[.pointer (some ⟨g, 0, none⟩)] _ 1 1 wr.heap.size rfl rfl) (ptrs_one _) (by omega) (by rw [size_alloc]; omega) ?_; intro v1 w8 hown1 hg1; obtain ⟨A8, c8, hv1, _⟩ := Sl.of_own hown1; subst hv1))
        go_roundw
        case rel => exact ⟨k + 1, m + 1, A8, c8, by omega, by omega, by go_num, by first | rfl | (congr 1), by rw [HF2.out, List.length_append, HM.out]; rfl, by rw [HF2.out]; unfold gsX; rw [List.map_append, ptrs_app]; exact hown1, (HB.out.trans ((bel_alloc wr _).mono HB.out.size)).trans (hg1.below (by rw [size_alloc]; omega) fun q hq => (HO.out.lt q hq).1)⟩
        case measure => simp [intOf]; omega
      · have q1 : ((tt : Int) == (id : Int)) = false := by rw [beq_eq_false_iff_ne]; omega
        have HF2 : Hid (ofX (xs.take (k + 1)) id = ofX (xs.take k) id) := Lib.hid (by rw [HF.out, if_neg he, List.append_nil])
        clear he
        go_wp2_with fail
        go_roundw
        case rel => exact ⟨k + 1, m, A, c, by omega, by omega, by go_num, rfl, by rw [HF2.out]; exact HM.out, by rw [HF2.out]; exact HO.out, HB.out⟩
        case measure => simp [intOf]; omega
    · obtain rfl : k = N := by omega
      have HT : Hid (xs.take k = xs) := Lib.hid (List.take_of_length_le (by rw [HN.out]; exact Nat.le_refl _))
      go_wp2_with fail
      go_ret
      have h1 := HO.out
      have h2 := HM.out
      rw [HT.out] at h1 h2
      have e : (gsX (ofX xs id)).length = m := by rw [gsX_len, h2]
      unfold PtrP
      rw [e]
      exact ⟨A, c, rfl, h1, HB.out⟩
end
end Go.Proofs.Ytnpmjljpaaaljaa.Bok
