/- lapidaryref05: one slot more, another start; the slots while Insert packs. -/
import Derived.Test.YtbpgjpopmohbmaaRfD
namespace Go.Proofs.Ytbpgjpopmohbmaa.Mem
open Go.RowKit Go.Proofs.Ytbpgjpopmohbmaa.Nums
set_option linter.unusedVariables false
set_option linter.unusedSimpArgs false
set_option maxRecDepth 100000
set_option maxHeartbeats 1000000
def zSlot : Array Value := #[.bool false, .int .u64 0, .int .u64 0, .int .u64 0, .int .i64 0, .int .i64 0, .slice none 0 0, .int .i64 0]
theorem infoSlot : (Try.prog.info? 122).map (fun i => (i.zero, i.size, i.bytes)) = some (some (.agg zSlot), 8, 80) := by kernel_rfl
def e0 : Ent := (none, .slice none 0 0)
theorem ents_e0 : ents [e0] = zSlot.toList := rfl
theorem e0_one : ∀ u ∈ ents [e0], u.oneCell' = true := by
  intro u hu
  rw [ents_e0] at hu
  simp [zSlot] at hu
  rcases hu with rfl | rfl | rfl | rfl | rfl <;> rfl
theorem wpl_app_slot {w : World} {ops : Array Oper} {rest : List Oper} {o : Oper} {a : Act} {Q : Exit → Act → World → Prop} (hgd : o.guard = none) (s x : Operand)
    (ho : o.op = .call { callee := .builtin .append, args := #[s, x], argTypes := #[43, 43] })
    (base : Nat) (v : Value) (n : Nat) (xs : List Value) (hs : a.eval s = v) (hown : w.ownsRow base 122 8 v n xs)
    (B : Nat) (y : Value) (m : Nat) (news : List Value) (hy : a.eval x = y) (hx : Lies w B 8 y m news) (h1 : ∀ u ∈ news, u.oneCell' = true)
    (hbytes : n + m ≤ 1000000) (hbase : base ≤ w.heap.size)
    (h : ∀ v' w', w'.ownsRow base 122 8 v' (n + m) (xs ++ news) → Kin w w' v v' → wpList Try.prog ops Q rest (a.put o.dst v') w') : wpList Try.prog ops Q (o :: rest) a w := by
  obtain ⟨i, hi, hz0, hz1, hz2⟩ := info_part infoSlot
  exact wpList_plain hgd fun _ hK => wp_append_mem w s x _ ho base 122 i _ 8 80 Try.underlying43 hi hz0 hz1 hz2 rfl (by omega) v n xs hs hown B y m news hy hx h1 (by unfold maxLen; omega) (by omega) hbase fun v' w' h2 h3 => hK _ _ (h v' w' h2 h3)
section
variable {w w' : World} {F : Nat → Prop} {R st c : Nat} {E : List Ent} {A : Option Addr}
theorem RfA.cap (h : RfA w F R E st A c) (hl : (Value.slice A E.length c).ownBlock = none ∨ ∃ g, A = some ⟨g, 0, none⟩) : True := trivial
/-- one slot more -/
theorem RfA.grow (h : RfA w F R E st A c) {A' : Option Addr} {c' : Nat} {e : Ent} (he : ∀ (v : Ver) (f : Nat) (u : Value), e ≠ (some (v, f), u)) (hown : w'.ownsRow 0 122 8 (.slice A' (E.length + 1) c') (E.length + 1) (ents E ++ ents [e])) (hk : Kin w w' (.slice A E.length c) (.slice A' (E.length + 1) c')) :
    RfA (w'.setCell ⟨R, 0, none⟩ (.slice A' (E.length + 1) c')) (fun g => F g ∨ (w.heap.size ≤ g ∧ g < w'.heap.size)) R (E ++ [e]) st A' c' := by
  have hR : (Value.slice A E.length c).ownBlock ≠ some R := own_blk_ne h.own h.blk (by decide)
  have hbR : Blk w' R 45 #[.slice A E.length c, .int .i64 st] := (hk.1.block R h.blk.lt hR.symm).trans h.blk
  have ho : Only R w' (w'.setCell ⟨R, 0, none⟩ (.slice A' (E.length + 1) c')) := (Only.refl R w').set_ _ _
  have hR' : (Value.slice A' (E.length + 1) c').ownBlock ≠ some R := own_blk_ne hown hbR (by decide)
  have hl : (E ++ [e]).length = E.length + 1 := by simp
  refine ⟨?_, .inl h.fr, ?_, ?_, fun i v f u hu => ?_, fun g hg => ?_⟩
  · rw [hl]
    exact Blk.set_ hbR 0 _
  · rw [hl, ents_app]
    exact own_keep hown fun g hg => ho.block g (hown.lt g hg).2 (fun e => hR' (by rw [hg, e]))
  · rw [hl]
    intro g hg
    rcases hk.2 with h1 | ⟨g', h1, h2⟩
    · left
      refine h.fown g ?_
      rw [← h1, hg]
    · right
      rw [hg] at h1
      injection h1 with h1
      subst h1
      exact ⟨h2, (hown.lt g hg).2⟩
  · have hu' : E[i]? = some (some (v, f), u) := by
      by_cases hi : i < E.length
      · rwa [List.getElem?_append_left hi] at hu
      · rw [List.getElem?_append_right (by omega)] at hu
        cases hj : i - E.length with
        | zero => rw [hj] at hu; simp at hu; exact absurd hu (he v f u)
        | succ k => rw [hj] at hu; simp at hu
    obtain ⟨h1, h2⟩ := h.data i v f u hu'
    refine ⟨own_keep h1 fun k hk2 => ?_, fun k hk2 => .inl (h2 k hk2)⟩
    have hkl := (h1.lt k hk2).2
    have hne : k ≠ R := fun e => own_blk_ne h1 h.blk (by decide) (by rw [hk2, e])
    rw [ho.block k (Nat.lt_of_lt_of_le hkl hk.1.size) hne]
    refine hk.1.block k hkl fun hv => ?_
    rcases h.own.2 with ⟨q1, _⟩ | ⟨g, cap, cur, q1, _, q3, _⟩
    · rw [q1] at hv; simp [Value.ownBlock] at hv
    · rw [q1] at hv
      have hv' : k = g := by simpa [Value.ownBlock] using hv
      subst hv'
      exact own_blk_ne h1 q3 (by decide) hk2
  · rcases hg with hg | hg
    · have := h.lt g hg
      have := hk.1.size
      have := ho.size
      omega
    · have := ho.size
      omega
theorem RfA.setSt (h : RfA w F R E st A c) (n : Nat) : RfA (w.setCell ⟨R, 1, none⟩ (.int .i64 n)) F R E n A c := by
  have ho : Only R w (w.setCell ⟨R, 1, none⟩ (.int .i64 n)) := (Only.refl R w).set_ _ _
  refine ⟨Blk.set_ h.blk 1 _, h.fr, own_keep h.own fun g hg => ho.block g (h.own.lt g hg).2 (fun e => own_blk_ne h.own h.blk (by decide) (by rw [hg, e])), h.fown, fun i v f u hu => ?_, fun g hg => Nat.lt_of_lt_of_le (h.lt g hg) ho.size⟩
  obtain ⟨h1, h2⟩ := h.data i v f u hu
  exact ⟨own_keep h1 fun g hg => ho.block g (h1.lt g hg).2 (fun e => own_blk_ne h1 h.blk (by decide) (by rw [hg, e])), h2⟩
end
/-- the first free slot from k on, or how many slots there are -/
def slotFrom (L : SL) (k : Nat) : Nat := k + nextL (L.drop k)
theorem slotFrom_end (L : SL) : slotFrom L L.length = L.length := by simp [slotFrom, nextL]
theorem slotFrom_zero (L : SL) : slotFrom L 0 = nextL L := by simp [slotFrom]
theorem slotFrom_none {L : SL} {k : Nat} (h : L[k]? = some none) : slotFrom L k = k := by
  obtain ⟨hk, e⟩ := List.getElem?_eq_some_iff.1 h
  unfold slotFrom nextL
  rw [List.drop_eq_getElem_cons hk, e]
  simp [List.findIdx_cons]
theorem slotFrom_some {L : SL} {k : Nat} {x : Ver × Nat} (h : L[k]? = some (some x)) : slotFrom L k = slotFrom L (k + 1) := by
  obtain ⟨hk, e⟩ := List.getElem?_eq_some_iff.1 h
  unfold slotFrom nextL
  rw [List.drop_eq_getElem_cons hk, e, List.findIdx_cons]
  simp
  omega
theorem tot_app_none (L : SL) : tot (L ++ [none]) = tot L := by simp [tot, osz]
theorem packL_app_none (L : SL) : packL (L ++ [none]) = packL L ++ [none] := by
  apply List.ext_getElem?
  intro s
  rw [packL_get]
  by_cases hs : s < L.length
  · rw [List.getElem?_append_left hs, List.getElem?_append_left (by rw [packL_len]; exact hs), packL_get, List.take_append_of_le_length (by omega)]
  · rw [List.getElem?_append_right (by omega), List.getElem?_append_right (by rw [packL_len]; omega), packL_len]
    cases hj : s - L.length with
    | zero => rfl
    | succ k => simp
/-- the slots while Insert packs: the first k moved, the rest where they were -/
def packE (E : List Ent) (k : Nat) : List Ent := E.mapIdx fun i e => if i < k then (e.1.map fun x => (x.1, 512 - tot ((E.map Prod.fst).take (i + 1))), e.2) else e
theorem packE_len (E : List Ent) (k : Nat) : (packE E k).length = E.length := by simp [packE]
theorem packE_get (E : List Ent) (k i : Nat) : (packE E k)[i]? = E[i]?.map fun e => if i < k then (e.1.map fun x => (x.1, 512 - tot ((E.map Prod.fst).take (i + 1))), e.2) else e := by simp [packE]
theorem packE_zero (E : List Ent) : packE E 0 = E := by
  apply List.ext_getElem?
  intro i
  rw [packE_get]
  cases E[i]? <;> simp
theorem packE_end (E : List Ent) : (packE E E.length).map Prod.fst = packL (E.map Prod.fst) := by
  apply List.ext_getElem?
  intro i
  rw [List.getElem?_map, packE_get, packL_get, List.getElem?_map]
  cases h : E[i]? with
  | none => rfl
  | some e =>
    have hi := (List.getElem?_eq_some_iff.1 h).1
    simp [hi]
theorem packE_none {E : List Ent} {k : Nat} {u : Value} (h : E[k]? = some (none, u)) : packE E (k + 1) = packE E k := by
  apply List.ext_getElem?
  intro i
  rw [packE_get, packE_get]
  by_cases hi : i = k
  · subst hi
    rw [h]
    simp
  · congr 1
    funext e
    by_cases h1 : i < k
    · rw [if_pos h1, if_pos (by omega)]
    · rw [if_neg h1, if_neg (by omega)]
theorem packE_some {E : List Ent} {k : Nat} {v : Ver} {f : Nat} {u : Value} (h : E[k]? = some (some (v, f), u)) : packE E (k + 1) = (packE E k).set k (some (v, 512 - tot ((E.map Prod.fst).take (k + 1))), u) := by
  have hk := (List.getElem?_eq_some_iff.1 h).1
  apply List.ext_getElem?
  intro i
  rw [packE_get]
  by_cases hi : i = k
  · subst hi
    rw [List.getElem?_set, if_pos rfl, if_pos (by rw [packE_len]; exact hk), h]
    simp
  · rw [List.getElem?_set, if_neg (Ne.symm hi), packE_get]
    congr 1
    funext e
    by_cases h1 : i < k
    · rw [if_pos h1, if_pos (by omega)]
    · rw [if_neg h1, if_neg (by omega)]
theorem packE_at {E : List Ent} {k : Nat} {e : Ent} (h : E[k]? = some e) : (packE E k)[k]? = some e := by
  rw [packE_get, h]
  simp
theorem rins_nil (r a b n c : Nat) (p s : Int) (A : Option Addr) (w : World) :
    Calls Try.prog 64 #[.pointer none, .agg #[.int .u64 r, .int .u64 a, .int .u64 b, .int .i64 p, .int .i64 s, .slice A n c]] w fun e w' => e = .returned (.tuple #[.int .i64 0, .int .i64 15]) ∧ Below w.heap.size w w' := by
  go_enter Try.func64, Try.ntmps64
  go_wp2_with fail
  go_ret2
  exact ⟨rfl, bel_alloc _ _⟩
theorem rins_form (R r a b n c : Nat) (p s : Int) (A : Option Addr) (w : World) (h : tuOk r a b p s n = false) :
    Calls Try.prog 64 #[.pointer (some ⟨R, 0, none⟩), .agg #[.int .u64 r, .int .u64 a, .int .u64 b, .int .i64 p, .int .i64 s, .slice A n c]] w fun e w' => e = .returned (.tuple #[.int .i64 0, .int .i64 3]) ∧ Below w.heap.size w w' := by
  have CR := Lib.hid (rright_any r a b p s A n c (w.alloc (.cells #[.int .u64 r, .int .u64 a, .int .u64 b, .int .i64 p, .int .i64 s, .slice A n c] 33)))
  rw [h] at CR
  clear h
  go_enter Try.func64, Try.ntmps64
  go_wp2_with fail
  refine CR.out.mono ?_
  rintro e w2 ⟨rfl, hb⟩
  have HB := Lib.hid (bel_trans (bel_alloc _ _) hb)
  clear hb
  go_wp2_with fail
  go_ret2
  exact ⟨rfl, HB.out⟩
end Go.Proofs.Ytbpgjpopmohbmaa.Mem
