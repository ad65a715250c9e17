/- Texts StayA to HeapQ, one behind the other. -/
import Derived.Test.YthghnhcopmmmpaaMPHC3
import Derived.Deep.CutRange
import Derived.Deep.RegionHeld3
/- PageStays: versions kept aside; what stays where one slot turns. -/
namespace Go.Proofs.Ythghnhcopmmmpaa.Mem
open Go.RowKit Go.Proofs.Ythghnhcopmmmpaa.Nums
set_option linter.unusedVariables false
set_option linter.unusedSimpArgs false
set_option maxRecDepth 100000
set_option maxHeartbeats 1000000
/-- the version of a slot -/
def verO (L : SL) (i : Int) : Option Ver := (atL L i).map Prod.fst
theorem verO_nat (L : SL) (i : Nat) : verO L (i : Int) = (L[i]?).join.map Prod.fst := by
  unfold verO atL
  rw [if_neg (by omega), show ((i : Nat) : Int).toNat = i by omega]
theorem verO_ins {L : SL} {st : Nat} {v : Ver} {i : Nat} (h : i ≠ nextL L) : verO (insS L st v).1 (i : Int) = verO L (i : Int) := by
  rw [verO_nat, verO_nat]
  have key : ∀ M : SL, nextL L ≤ M.length → (∀ x, (putL M (nextL L) x)[i]? = M[i]?) := fun M hM x => by rw [putL_get hM, if_neg h]
  unfold insS
  split
  · show ((putL _ _ _)[i]?).join.map Prod.fst = _
    rw [key _ (by rw [packL_len]; exact nextL_le L), packL_get]
    cases L[i]? with
    | none => rfl
    | some o => cases o <;> rfl
  · show ((putL _ _ _)[i]?).join.map Prod.fst = _
    rw [key _ (nextL_le L)]
theorem verO_new (L : SL) (st : Nat) (v : Ver) : verO (insS L st v).1 (nextL L : Int) = some v := by
  rw [verO_nat]
  obtain ⟨f, hf⟩ := insS_new L st v
  rw [hf]
  rfl
theorem verO_stamp {L : SL} {i : Nat} {j U : Int} {b : Nat} {p s : Int} (h : (i : Int) ≠ j) : verO (stampR L j b p s).2 (i : Int) = verO L (i : Int) := by
  unfold stampR
  split
  · cases ha : atL L j with
    | none => rfl
    | some x =>
      obtain ⟨k, rfl, hk⟩ := atL_some ha
      rw [verO_nat, verO_nat]
      show ((L.set k _)[i]?).join.map Prod.fst = _
      rw [set_get (List.getElem?_eq_some_iff.1 hk).1, if_neg (by omega)]
  · rfl
theorem verO_free {L L' : SL} {i : Nat} {j x : Int} (hf : FreeTo L j x L') (h : (i : Int) ≠ j) : verO L' (i : Int) = verO L (i : Int) := by
  rcases hf with ⟨_, _, rfl⟩ | ⟨v, f, k, h1, rfl, h3, rfl⟩
  · rfl
  · obtain ⟨q, rfl, hq⟩ := atL_some h1
    have hql := (List.getElem?_eq_some_iff.1 hq).1
    have h3' : IsTrim (L.set q none) k := h3
    rw [verO_nat, verO_nat]
    show (((L.set q none).take k)[i]?).join.map Prod.fst = _
    have hs : (L.set q none)[i]? = L[i]? := by rw [set_get hql, if_neg (by omega)]
    rw [List.getElem?_take]
    split
    · rw [hs]
    · by_cases hl : i < L.length
      · have := h3'.free i (by omega) (by rw [List.length_set]; exact hl)
        rw [← hs, this]
        rfl
      · rw [List.getElem?_eq_none (by omega)]
theorem flat_len {α : Type} (f : α → List Value) (n : Nat) (hf : ∀ a, (f a).length = n) : ∀ l : List α, (l.flatMap f).length = l.length * n
  | [] => by simp
  | a :: l => by
    show (f a ++ l.flatMap f).length = _
    rw [List.length_append, hf, flat_len f n hf l, List.length_cons, Nat.add_mul]
    omega
theorem flat_at {α : Type} (f : α → List Value) (n : Nat) (hf : ∀ a, (f a).length = n) : ∀ (l : List α) (i : Nat) (a : α), l[i]? = some a → ∀ j, j < n → (l.flatMap f)[i * n + j]? = (f a)[j]?
  | [], i, a, h, j, hj => by simp at h
  | y :: l, 0, a, h, j, hj => by
    simp at h; subst h
    show (f y ++ l.flatMap f)[0 * n + j]? = _
    rw [Nat.zero_mul, Nat.zero_add, List.getElem?_append_left (by rw [hf]; exact hj)]
  | y :: l, i + 1, a, h, j, hj => by
    show (f y ++ l.flatMap f)[(i + 1) * n + j]? = _
    rw [List.getElem?_append_right (by rw [hf, Nat.add_mul]; omega), hf, show (i + 1) * n + j - n = i * n + j by rw [Nat.add_mul]; omega]
    exact flat_at f n hf l i a (by simpa using h) j hj
abbrev Wt := Option Ver × Value
def wtC : Wt → List Value
  | (none, _) => [.int .u64 0, .int .u64 0, .int .u64 0, .int .i64 0, .int .i64 0, .slice none 0 0]
  | (some v, u) => [.int .u64 v.r, .int .u64 v.a, .int .u64 v.b, .int .i64 ((v.p : Int) - 1), .int .i64 ((v.s : Int) - 1), u]
theorem wtC_len (e : Wt) : (wtC e).length = 6 := by
  obtain ⟨o, u⟩ := e
  cases o <;> rfl
def wts (l : List Wt) : List Value := l.flatMap wtC
def bls (l : List Wt) : List Value := l.map fun e => .bool e.1.isSome
theorem wts_app (l : List Wt) (e : Wt) : wts (l ++ [e]) = wts l ++ wtC e := by simp [wts]
theorem bls_app (l : List Wt) (e : Wt) : bls (l ++ [e]) = bls l ++ [.bool e.1.isSome] := by simp [bls]
theorem infoTup : (Try.prog.info? 33).map (fun i => (i.zero, i.size, i.bytes)) = some (some zeroT, 6, 64) := by kernel_rfl
theorem infoBool : (Try.prog.info? 4).map (fun i => (i.zero, i.size, i.bytes)) = some (some (.bool false), 1, 1) := by kernel_rfl
section
variable {w : World} {ops : Array Oper} {rest : List Oper} {o : Oper} {a : Act} {Q : Exit → Act → World → Prop}
theorem wpl_app_tup (hgd : o.guard = none) (s x : Operand)
    (ho : o.op = .call { callee := .builtin .append, args := #[s, x], argTypes := #[64, 64] })
    (base : Nat) (v : Value) (n : Nat) (xs : List Value) (hs : a.eval s = v) (hown : w.ownsRow base 33 6 v n xs)
    (B : Nat) (y : Value) (m : Nat) (news : List Value) (hy : a.eval x = y) (hx : Lies w B 6 y m news) (h1 : ∀ u ∈ news, u.oneCell' = true)
    (hbytes : n + m ≤ 1000000) (hbase : base ≤ w.heap.size)
    (h : ∀ v' w', w'.ownsRow base 33 6 v' (n + m) (xs ++ news) → Kin w w' v v' → wpList Try.prog ops Q rest (a.put o.dst v') w') : wpList Try.prog ops Q (o :: rest) a w := by
  obtain ⟨i, hi, hz0, hz1, hz2⟩ := info_part infoTup
  exact wpList_plain hgd fun _ hK => wp_append_mem w s x _ ho base 33 i _ 6 64 Try.underlying64 hi hz0 hz1 hz2 rfl (by omega) v n xs hs hown B y m news hy hx h1 (by unfold maxLen; omega) (by omega) hbase fun v' w' h2 h3 => hK _ _ (h v' w' h2 h3)
theorem wpl_app_bool (hgd : o.guard = none) (s x : Operand)
    (ho : o.op = .call { callee := .builtin .append, args := #[s, x], argTypes := #[65, 65] })
    (base : Nat) (v : Value) (n : Nat) (xs : List Value) (hs : a.eval s = v) (hown : w.ownsRow base 4 1 v n xs)
    (B : Nat) (y : Value) (m : Nat) (news : List Value) (hy : a.eval x = y) (hx : Lies w B 1 y m news) (h1 : ∀ u ∈ news, u.oneCell' = true)
    (hbytes : n + m ≤ 1000000) (hbase : base ≤ w.heap.size)
    (h : ∀ v' w', w'.ownsRow base 4 1 v' (n + m) (xs ++ news) → Kin w w' v v' → wpList Try.prog ops Q rest (a.put o.dst v') w') : wpList Try.prog ops Q (o :: rest) a w := by
  obtain ⟨i, hi, hz0, hz1, hz2⟩ := info_part infoBool
  exact wpList_plain hgd fun _ hK => wp_append_mem w s x _ ho base 4 i _ 1 1 Try.underlying65 hi hz0 hz1 hz2 rfl (by omega) v n xs hs hown B y m news hy hx h1 (by unfold maxLen; omega) (by omega) hbase fun v' w' h2 h3 => hK _ _ (h v' w' h2 h3)
end
/-- what is kept aside: versions, whether they were there; L: the slots that they are of -/
structure SI (w wl : World) (P : Nat) (L : SL) (l : List Wt) (Aw : Option Addr) (cw : Nat) (At : Option Addr) (ct : Nat) : Prop where
  pg : ∃ X, Pg wl P X
  was : wl.ownsRow w.heap.size 33 6 (.slice Aw l.length cw) l.length (wts l)
  the : wl.ownsRow w.heap.size 4 1 (.slice At l.length ct) l.length (bls l)
  dat : ∀ (i : Nat) (v : Ver) (u : Value), l[i]? = some (some v, u) → wl.ownsRow w.heap.size 5 1 u v.d.length (u8s v.d)
  is : ∀ (i : Nat) (e : Wt), l[i]? = some e → e.1 = verO L (i : Int)
  bel : Below w.heap.size w wl
  ge : w.heap.size ≤ P
section
variable {w wl w' : World} {P : Nat} {L : SL} {l : List Wt} {Aw At : Option Addr} {cw ct : Nat}
theorem SI.below (h : SI w wl P L l Aw cw At ct) (hb : Below wl.heap.size wl w') : SI w w' P L l Aw cw At ct := by
  obtain ⟨X, hX⟩ := h.pg
  have k : ∀ {e : TypeId} {sz n : Nat} {v : Value} {xs : List Value}, wl.ownsRow w.heap.size e sz v n xs → w'.ownsRow w.heap.size e sz v n xs := fun hv => own_keep hv fun k hk => hb.block k (hv.lt k hk).2
  exact ⟨⟨X, Blk.below hX.1 hb (Blk.lt hX.1), hX.2⟩, k h.was, k h.the, fun i v u hu => k (h.dat i v u hu), h.is, h.bel.trans (hb.mono h.bel.size), h.ge⟩
/-- the page alone has turned -/
theorem SI.only (h : SI w wl P L l Aw cw At ct) (ho : Only P wl w') (hp : ∃ X, Pg w' P X) : SI w w' P L l Aw cw At ct := by
  obtain ⟨X, hX⟩ := h.pg
  have k : ∀ {e : TypeId} {sz n : Nat} {v : Value} {xs : List Value}, e ≠ 113 → wl.ownsRow w.heap.size e sz v n xs → w'.ownsRow w.heap.size e sz v n xs := fun hne hv => own_keep hv fun k hk => ho.block k (hv.lt k hk).2 (fun e => own_blk_ne hv hX.1 hne (by rw [hk, e]))
  exact ⟨hp, k (by decide) h.was, k (by decide) h.the, fun i v u hu => k (by decide) (h.dat i v u hu), h.is, h.bel.trans (ho.below h.bel.size h.ge), h.ge⟩
/-- a block of which it is known that it turns: the own one of a slice of elements e -/
theorem kin_keep {e e2 : TypeId} {sz sz2 n n2 B B2 : Nat} {v v' u : Value} {xs ys : List Value} (hk : Kin wl w' v v') (hv : wl.ownsRow B e sz v n xs) (hu : wl.ownsRow B2 e2 sz2 u n2 ys) (hne : e2 ≠ e) : w'.ownsRow B2 e2 sz2 u n2 ys :=
  own_keep hu fun k hk2 => hk.1.block k (hu.lt k hk2).2 (fun hv2 => by
    rcases hv.2 with ⟨q1, _⟩ | ⟨g, cap, cur, q1, _, q3, _⟩
    · rw [q1] at hv2; simp [Value.ownBlock] at hv2
    · rw [q1] at hv2
      have : g = k ∨ k = g := by simp [Value.ownBlock] at hv2; first | exact .inl hv2 | exact .inr hv2
      rcases this with rfl | rfl
      · exact own_blk_ne hu q3 hne hk2
      · exact own_blk_ne hu q3 hne hk2)
theorem kin_pg {e : TypeId} {sz n B : Nat} {v v' : Value} {xs : List Value} {X : List UInt8} (hk : Kin wl w' v v') (hv : wl.ownsRow B e sz v n xs) (hp : Pg wl P X) (hne : e ≠ 113) : Pg w' P X :=
  ⟨(hk.1.block P (Blk.lt hp.1) (Ne.symm (own_blk_ne hv hp.1 hne))).trans hp.1, hp.2⟩
/-- one more kept aside -/
theorem SI.more {w2 : World} (h : SI w wl P L l Aw cw At ct) {e : Wt} {Aw' At' : Option Addr} {cw' ct' : Nat} (he : e.1 = verO L (l.length : Int)) (hd : ∀ v u, e = (some v, u) → wl.ownsRow w.heap.size 5 1 u v.d.length (u8s v.d))
    {o1 o2 : Obj} {w1 w3 : World} (h1 : w1 = wl.alloc o1)
    (hw : w2.ownsRow w.heap.size 33 6 (.slice Aw' (l.length + 1) cw') (l.length + 1) (wts l ++ wtC e)) (hk1 : Kin w1 w2 (.slice Aw l.length cw) (.slice Aw' (l.length + 1) cw'))
    (h3 : w3 = w2.alloc o2) (ht : w'.ownsRow w.heap.size 4 1 (.slice At' (l.length + 1) ct') (l.length + 1) (bls l ++ [.bool e.1.isSome])) (hk2 : Kin w3 w' (.slice At l.length ct) (.slice At' (l.length + 1) ct')) :
    SI w w' P L (l ++ [e]) Aw' cw' At' ct' := by
  obtain ⟨X, hX⟩ := h.pg
  have a1 : Below wl.heap.size wl w1 := by rw [h1]; exact bel_alloc _ _
  have s1 := h.below a1
  have hl : (l ++ [e]).length = l.length + 1 := by simp
  have hX1 : Pg w1 P X := ⟨Blk.below hX.1 a1 (Blk.lt hX.1), hX.2⟩
  have hX2 := kin_pg hk1 s1.was hX1 (by decide)
  have the2 := kin_keep hk1 s1.was s1.the (by decide)
  have a3 : Below w2.heap.size w2 w3 := by rw [h3]; exact bel_alloc _ _
  have k3 : ∀ {e : TypeId} {sz n : Nat} {v : Value} {xs : List Value}, w2.ownsRow w.heap.size e sz v n xs → w3.ownsRow w.heap.size e sz v n xs := fun hv => own_keep hv fun k hk => a3.block k (hv.lt k hk).2
  have hX3 : Pg w3 P X := ⟨Blk.below hX2.1 a3 (Blk.lt hX2.1), hX2.2⟩
  have hbel1 : Below w.heap.size w w2 := s1.bel.trans (hk1.below s1.bel.size (fun k hk => (s1.was.lt k hk).1))
  have hbel3 : Below w.heap.size w w3 := hbel1.trans (a3.mono hbel1.size)
  refine ⟨⟨X, kin_pg hk2 (k3 the2) hX3 (by decide)⟩, ?_, ?_, fun i v u hu => ?_, fun i e' hu => ?_, hbel3.trans (hk2.below hbel3.size (fun k hk => ((k3 the2).lt k hk).1)), h.ge⟩
  · rw [hl, wts_app]
    exact kin_keep hk2 (k3 the2) (k3 hw) (by decide)
  · rw [hl, bls_app]
    exact ht
  · have hold : wl.ownsRow w.heap.size 5 1 u v.d.length (u8s v.d) := by
      by_cases hi : i < l.length
      · rw [List.getElem?_append_left hi] at hu
        exact h.dat i v u hu
      · rw [List.getElem?_append_right (by omega)] at hu
        cases hj : i - l.length with
        | zero => rw [hj] at hu; simp at hu; exact hd v u hu
        | succ k => rw [hj] at hu; simp at hu
    have q1 : w1.ownsRow w.heap.size 5 1 u v.d.length (u8s v.d) := own_keep hold fun k hk => a1.block k (hold.lt k hk).2
    exact kin_keep hk2 (k3 the2) (k3 (kin_keep hk1 s1.was q1 (by decide))) (by decide)
  · by_cases hi : i < l.length
    · rw [List.getElem?_append_left hi] at hu
      exact h.is i e' hu
    · rw [List.getElem?_append_right (by omega)] at hu
      cases hj : i - l.length with
      | zero =>
        rw [hj] at hu
        simp at hu
        subst hu
        rw [he, show l.length = i by omega]
      | succ k => rw [hj] at hu; simp at hu
/-- the six cells of one kept aside, and whether it was there -/
theorem SI.at_ (h : SI w wl P L l Aw cw At ct) {i : Nat} {e : Wt} (he : l[i]? = some e) : ∃ g g2, Aw = some ⟨g, 0, none⟩ ∧ At = some ⟨g2, 0, none⟩ ∧ (∀ j, j < 6 → wl.cell? ⟨g, i * 6 + j, none⟩ = (wtC e)[j]?) ∧ wl.cell? ⟨g2, i, none⟩ = some (.bool e.1.isSome) ∧ l.length ≤ cw ∧ l.length ≤ ct := by
  have hi := (List.getElem?_eq_some_iff.1 he).1
  rcases h.was.2 with ⟨_, h2⟩ | ⟨g, cap, cur, hv, hb, hg, hn, hm, hs, ht⟩
  · exact absurd h2 (by omega)
  rcases h.the.2 with ⟨_, h2⟩ | ⟨g2, cap2, cur2, hv2, hb2, hg2, hn2, hm2, hs2, ht2⟩
  · exact absurd h2 (by omega)
  injection hv with q1 _ q3
  injection hv2 with q4 _ q6
  subst q1 q3 q4 q6
  refine ⟨g, g2, rfl, rfl, fun j hj => ?_, ?_, hn, hn2⟩
  · have h1 := flat_at wtC 6 wtC_len l i e he j hj
    rw [Blk.cell (show Blk wl g _ cur from hg), ← h1]
    show _ = (wts l)[i * 6 + j]?
    rw [← ht, List.getElem?_take, if_pos (by omega), Array.getElem?_toList]
  · have h1 : (bls l)[i]? = some (.bool e.1.isSome) := by unfold bls; rw [List.getElem?_map, he]; rfl
    rw [Blk.cell (show Blk wl g2 _ cur2 from hg2), ← h1, ← ht2, List.getElem?_take, if_pos (by omega), Array.getElem?_toList]
end
end Go.Proofs.Ythghnhcopmmmpaa.Mem
/- lapidaryref05: Used, few, lay. -/
namespace Go.Proofs.Ythghnhcopmmmpaa.Mem
open Go.RowKit Go.Proofs.Ythghnhcopmmmpaa.Nums
set_option linter.unusedVariables false
set_option linter.unusedSimpArgs false
set_option maxRecDepth 100000
set_option maxHeartbeats 1000000
theorem rused_nil (w : World) : Calls Try.prog 24 #[.pointer none] w fun e w' => e = .returned (.int .i64 0) ∧ w = w' := by
  go_enter Try.func24, Try.ntmps24
  go_wp2_with fail
  go_ret
  exact ⟨rfl, rfl⟩
theorem usedL_le (L : SL) (k : Nat) : usedL (L.take k) ≤ k := by
  unfold usedL
  exact Nat.le_trans (List.length_filter_le _ _) (by rw [List.length_take]; omega)
theorem usedL_succ {L : SL} {k : Nat} {o : Option (Ver × Nat)} (h : L[k]? = some o) : usedL (L.take (k + 1)) = usedL (L.take k) + (if o.isSome then 1 else 0) := by
  rw [take_succ_of h, usedL_snoc]
theorem rused_any {w : World} {F : Nat → Prop} {R st c : Nat} {E : List Ent} {A : Option Addr} (h : RfA w F R E st A c) (hl : E.length ≤ 128) :
    Calls Try.prog 24 #[.pointer (some ⟨R, 0, none⟩)] w fun e w' => e = .returned (.int .i64 (usedL (E.map Prod.fst))) ∧ Below w.heap.size w w' := by
  have H := Lib.hid h
  have x0 := h.blk.cell 0
  have x1 := h.blk.cell 1
  have hle := h.le
  unfold maxLen at hle
  obtain ⟨L, hL⟩ : ∃ L, E.map Prod.fst = L := ⟨_, rfl⟩
  have hLl : L.length = E.length := by rw [← hL, List.length_map]
  have HLL := Lib.hid hL
  rw [hL]
  clear h hL
  go_enter Try.func24, Try.ntmps24
  go_wp2_with fail
  clear x0 x1
  go_loopw [3, 13] (fun nv i wr => ∃ k : Nat, k ≤ E.length ∧ i = .int .i64 k ∧ nv = .int .i64 (usedL (L.take k) : Nat) ∧ Below w.heap.size w wr) (fun _ i _ => E.length - (intOf i).toNat)
  case atStart => exact ⟨0, by omega, rfl, by simp [usedL], Below.refl _ _⟩
  case round =>
    obtain ⟨k, hk, rfl, rfl, hb⟩ := hrel
    have HB := Lib.hid hb
    have HK := Lib.hid (H.out.below hb)
    have huk := usedL_le L k
    by_cases hlt : k < E.length
    · have hlt' : (k : Int) < E.length := by omega
      obtain ⟨⟨o, u⟩, he⟩ : ∃ e, E[k]? = some e := ⟨_, List.getElem?_eq_getElem hlt⟩
      obtain ⟨g, cur, rfl, _, _, _, _⟩ := HK.out.arr hlt
      have HT := Lib.hid (usedL_succ (L := L) (k := k) (o := o) (by rw [← HLL.out]; exact map_at he))
      cases o with
      | none =>
        obtain ⟨y0, y1, y2, y3, y4, y5, y6, y7⟩ := HK.out.free8 he rfl
        go_wp2_with fail
        go_roundw
        case rel => exact ⟨k + 1, by omega, by go_num, by rw [HT.out]; simp, HB.out.trans ((bel_alloc _ _).mono HB.out.size)⟩
        case measure => simp [intOf]; omega
      | some x =>
        obtain ⟨v, f⟩ := x
        obtain ⟨A', c', rfl, hsl⟩ := Sl.of_own (H.out.data k v f u he).1
        obtain ⟨y0, y1, y2, y3, y4, y5, y6, y7⟩ := HK.out.full8 he rfl
        go_wp2_with fail
        go_roundw
        case rel => exact ⟨k + 1, by omega, by go_num, by rw [HT.out]; first | (simp; done) | (simp; go_num), HB.out.trans ((bel_alloc _ _).mono HB.out.size)⟩
        case measure => simp [intOf]; omega
    · obtain rfl : k = E.length := by omega
      rw [← hLl, List.take_length]
      go_wp2_with fail
      go_ret
      exact ⟨rfl, HB.out⟩
/-- lay: bytes laid over a block's -/
theorem rlay_any (g : Nat) (t : TypeId) (X b : List UInt8) (at_ m c n cb : Nat) (Ab : Option Addr) (w : World) (hb : BB w g t X) (hX : X.length = m) (hc : m ≤ c) (hcm : c ≤ maxLen) (hs : Sl w w.heap.size 1 Ab n cb (u8s b)) (hne : ∀ ad, Ab = some ad → 0 < n → ad.block ≠ g) (hfit : at_ + n ≤ m) (hm : m ≤ 100000) :
    Calls Try.prog 66 #[.slice (some ⟨g, 0, none⟩) m c, .int .i64 at_, .slice Ab n cb] w fun e w' => e = .returned (.tuple #[]) ∧ BB w' g t (lay X at_ b) ∧ Only g w w' := by
  have HB := Lib.hid hb
  have HS := Lib.hid hs
  have HX := Lib.hid hX
  have HNE := Lib.hid hne
  have HN := Lib.hid (len_of hs)
  unfold maxLen at hcm
  have hcb := hs.cap
  unfold maxLen at hcb
  have hle := hs.le
  clear hb hs hX hne
  go_enter Try.func66, Try.ntmps66
  go_wp2_with fail
  go_loopw [10] (fun i wr => ∃ k : Nat, k ≤ n ∧ i = .int .i64 k ∧ BB wr g t (lay X at_ (b.take k)) ∧ Only g w wr) (fun i _ => n - (intOf i).toNat)
  case atStart => exact ⟨0, by omega, rfl, by rw [List.take_zero, lay_nil]; exact HB.out, Only.refl _ _⟩
  case round =>
    obtain ⟨k, hk, rfl, hbk, ho⟩ := hrel
    have HK := Lib.hid hbk
    have HO := Lib.hid ho
    clear hbk ho
    by_cases hlt : k < n
    · have hlt' : (k : Int) < n := by omega
      obtain ⟨y, hy⟩ : ∃ y, b[k]? = some y := ⟨_, List.getElem?_eq_getElem (by rw [HN.out]; exact hlt)⟩
      obtain ⟨ad, rfl, hAt⟩ := HS.out.at_ (by omega)
      have y0 : wr.cell? (ad.add k) = some (.int .u8 (y.toNat : Int)) := HO.out.cell (by rw [add_block]; exact hAt.1) (by rw [add_block]; exact HNE.out ad rfl (by omega)) (u8s_at hAt hy)
      have hl : (b.take k).length = k := by rw [List.length_take, HN.out]; omega
      have hll := lay_len (X := X) (b := b.take k) (a := at_) (by rw [hl, HX.out]; omega)
      obtain ⟨z, hz⟩ : ∃ z, (lay X at_ (b.take k))[at_ + k]? = some z := ⟨_, List.getElem?_eq_getElem (by rw [hll, HX.out]; omega)⟩
      have z0 := HK.out.cell hz
      have f0 := HK.out.frozen (at_ + k)
      have HP := Lib.hid (HK.out.put (at_ + k) y)
      have HL := Lib.hid (lay_set (X := X) (b := b.take k) (a := at_) (by rw [hl, HX.out]; omega) y)
      rw [hl, ← take_succ_of hy] at HL
      rw [HL.out] at HP
      have k1 : (0 : Int) ≤ (at_ : Int) + k := by omega
      have k2 : (at_ : Int) + k < m := by omega
      have k3 : ((at_ : Int) + k).toNat = at_ + k := by omega
      have k4 : at_ + k < m := by omega
      clear hy hz hAt hll hl
      go_wp2_with fail
      go_roundw
      case rel => exact ⟨k + 1, by omega, by go_num, HP.out, HO.out.set_ _ _⟩
      case measure => simp [intOf]; omega
    · obtain rfl : k = n := by omega
      rw [List.take_of_length_le (by rw [HN.out]; omega)] at HK
      go_wp2_with fail
      exact bodyPost_end (v := .tuple #[]) (by simp [results, Try.results66, go_sem]) rfl ⟨rfl, HK.out, HO.out⟩
/-- few: a number's lowest bytes -/
theorem few_rec (U k : Nat) : UInt8.ofNat (U / 2 ^ (8 * k) % 256) = UInt8.ofNat (U / 2 ^ (8 * k)) := by
  apply UInt8.toNat_inj.1
  rw [UInt8.toNat_ofNat', UInt8.toNat_ofNat']
  omega
theorem rfew_any (U m : Nat) (w : World) (hU : U < 18446744073709551616) (hm : m ≤ 8) :
    Calls Try.prog 67 #[.int .u64 U, .int .i64 m] w fun e w' => ∃ v, e = .returned v ∧ OwnB w' w.heap.size v m (u8s (nb U m)) ∧ Below w.heap.size w w' := by
  go_enter Try.func67, Try.ntmps67
  go_wp2_with fail
  go_loopw [0, 5, 7] (fun uv ov i wr => ∃ k : Nat, k ≤ m ∧ i = .int .i64 k ∧ uv = .int .u64 (U / 2 ^ (8 * k) : Nat) ∧ OwnB wr w.heap.size ov k (u8s (nb U k)) ∧ Below w.heap.size w wr) (fun _ _ i _ => m - (intOf i).toNat)
  case atStart => exact ⟨0, by omega, rfl, by simp, World.ownsRow_nil _ _ _ _, Below.refl _ _⟩
  case round =>
    obtain ⟨k, hk, rfl, rfl, ho, hb⟩ := hrel
    have HO := Lib.hid ho
    have HB := Lib.hid hb
    obtain ⟨A1, c1, rfl, _⟩ := Sl.of_own ho
    clear ho hb
    by_cases hlt : k < m
    · have hlt' : (k : Int) < m := by omega
      obtain ⟨V, hV⟩ : ∃ V, U / 2 ^ (8 * k) = V := ⟨_, rfl⟩
      have hVb : V < 18446744073709551616 := by rw [← hV]; exact Nat.lt_of_le_of_lt (Nat.div_le_self _ _) hU
      have HV2 : Hid (U / 2 ^ (8 * (k + 1)) = V / 256) := Lib.hid (by rw [← hV, Nat.div_div_eq_div_mul, show 8 * (k + 1) = 8 * k + 8 by omega, Nat.pow_add])
      have HNB : Hid (nb U (k + 1) = nb U k ++ [UInt8.ofNat (V % 256)]) := Lib.hid (by rw [nb_succ, ← hV, few_rec])
      have hd : ((V : Int) / 256) = ((V / 256 : Nat) : Int) := by omega
      have hr : (V : Int) % 256 = ((V % 256 : Nat) : Int) := by omega
      have hq : Int.tdiv (V : Int) 256 = ((V / 256 : Nat) : Int) := (Int.ofNat_tdiv V 256).symm
      have hq2 : Int.tmod (V : Int) 256 = ((V % 256 : Nat) : Int) := (Int.ofNat_tmod V 256).symm
      have hby : IntKind.u8.wrap ((V % 256 : Nat) : Int) = ((UInt8.ofNat (V % 256)).toNat : Nat) := by
        rw [IntKind.wrap_u8, UInt8.toNat_ofNat']
        omega
      have hV0 : (0 : Int) ≤ V := by omega
      have hV1 : (V : Int) ≤ 18446744073709551615 := by omega
      have hwr : IntKind.u64.wrap ((V % 256 : Nat) : Int) = ((V % 256 : Nat) : Int) := by rw [IntKind.wrap_u64]; omega
      have hwq : IntKind.u64.wrap ((V / 256 : Nat) : Int) = ((V / 256 : Nat) : Int) := by rw [IntKind.wrap_u64]; omega
      have hcell : (#[Value.int .u8 ((V : Int) % 256)]).toList = u8s [UInt8.ofNat (V % 256)] := by
        show [Value.int .u8 ((V : Int) % 256)] = [Value.int .u8 ((UInt8.ofNat (V % 256)).toNat : Int)]
        rw [UInt8.toNat_ofNat', hr]
        congr 2
        omega
      have HLI : Hid (Lies (wr.alloc (.cells #[.int .u8 ((V : Int) % 256)] 5)) (wr.heap.size + 1) 1 (.slice (some ⟨wr.heap.size, 0, none⟩) 1 1) 1 (u8s [UInt8.ofNat (V % 256)])) := Lib.hid (by
        have hh := lies_lit wr #[.int .u8 ((V : Int) % 256)] 5 1 1 rfl
        rwa [hcell] at hh)
      rw [hV]
      clear hV hd hr hcell hby hwr hq2
      go_wp2_with (at_builtin; go_loud (refine wpl_app_b rfl (.tmp 9) (.tmp 13) rfl w.heap.size _ k (u8s (nb U k)) rfl (World.ownsRow.alloc HO.out _) _ _ 1 (u8s [UInt8.ofNat (V % 256)]) rfl HLI.out (u8s_one _) (by omega) (by rw [size_alloc]; have := HB.out.size; omega) ?_; intro v1 w9 hown1 hk1))
      have HO9 : Hid (OwnB w9 w.heap.size v1 (k + 1) (u8s (nb U (k + 1)))) := Lib.hid (own_eq hown1 rfl (by rw [HNB.out, u8s_app]))
      have HB9 : Hid (Below w.heap.size w w9) := Lib.hid (HB.out.trans (((bel_alloc wr (.cells #[.int .u8 ((V : Int) % 256)] 5)).mono HB.out.size).trans (hk1.below (by rw [size_alloc]; have := HB.out.size; omega) (fun g hg => (HO.out.lt g hg).1))))
      clear hown1 hk1
      go_wp2_with fail
      go_roundw
      case rel => exact ⟨k + 1, by omega, by go_num, by rw [HV2.out]; first | rfl | (congr 1; omega) | (simp; done), HO9.out, HB9.out⟩
      case measure => simp [intOf]; omega
    · obtain rfl : k = m := by omega
      go_wp2_with fail
      go_ret
      exact ⟨_, rfl, HO.out, HB.out⟩
end Go.Proofs.Ythghnhcopmmmpaa.Mem
/- lapidaryref05.pack: a version's bytes. -/
namespace Go.Proofs.Ythghnhcopmmmpaa.Mem
open Go.RowKit Go.Proofs.Ythghnhcopmmmpaa.Nums
set_option linter.unusedVariables false
set_option linter.unusedSimpArgs false
set_option maxRecDepth 100000
set_option maxHeartbeats 1000000
theorem step_app_b {w : World} {ops : Array Oper} {o : Oper} {a : Act} {K : Act → World → Prop} {Q : Exit → Act → World → Prop} {E : Prop} (hgd : o.guard = none) (s x : Operand)
    (ho : o.op = .call { callee := .builtin .append, args := #[s, x], argTypes := #[31, 31] })
    (base : Nat) (v : Value) (n : Nat) (xs : List Value) (hs : a.eval s = v) (hown : OwnB w base v n xs)
    (B : Nat) (y : Value) (m : Nat) (news : List Value) (hy : a.eval x = y) (hx : Lies w B 1 y m news) (h1 : ∀ u ∈ news, u.oneCell' = true)
    (hbytes : n + m ≤ 1000000) (hbase : base ≤ w.heap.size)
    (h : ∀ v' w', OwnB w' base v' (n + m) (xs ++ news) → Kin w w' v v' → K (a.put o.dst v') w') :
    if Region.wanted o (yielded ops a.tmps) = true then Oper.wp Try.prog o a w K Q else E := by
  rw [if_pos (by simp [Region.wanted, hgd])]
  obtain ⟨i, hi, hz0, hz1, hz2⟩ := info_part info5
  exact wp_append_mem w s x _ ho base 5 i _ 1 1 Try.underlying31 hi hz0 hz1 hz2 rfl (by omega) v n xs hs hown B y m news hy hx h1 (by unfold maxLen; omega) (by omega) hbase h
theorem sl_own' {w : World} {B n c : Nat} {e : TypeId} {A : Option Addr} {xs : List Value} (h : w.ownsRow B e 1 (.slice A n c) n xs) : Sl w w.heap.size 1 A n c xs := by
  obtain ⟨A', c', hv, hs⟩ := Sl.of_own h
  injection hv with h1 _ h3
  subst h1 h3
  exact hs
theorem own_lies {w : World} {B n : Nat} {v : Value} {xs : List Value} (h : OwnB w B v n xs) : Lies w w.heap.size 1 v n xs := by
  obtain ⟨A, c, rfl, hs⟩ := Sl.of_own h
  exact hs.lies
/-- bytes so far, the version's box, the version's Data -/
structure PK (w wl : World) (b0 : Nat) (box : Array Value) (u : Value) (y : List UInt8) : Prop where
  own : OwnB wl (b0 + 1) u y.length (u8s y)
  box : Blk wl b0 33 box
  bel : Below b0 w wl
section
variable {w wl w' : World} {b0 : Nat} {box : Array Value} {u u' : Value} {y z : List UInt8}
theorem PK.below (h : PK w wl b0 box u y) (hb : Below wl.heap.size wl w') : PK w w' b0 box u y :=
  ⟨own_keep h.own fun k hk => hb.block k (h.own.lt k hk).2, Blk.below h.box hb (Blk.lt h.box), h.bel.trans (hb.mono (Nat.le_of_lt (Blk.lt h.box)))⟩
theorem PK.app (h : PK w wl b0 box u y) (ho : OwnB w' (b0 + 1) u' (y.length + z.length) (u8s y ++ u8s z)) (hk : Kin wl w' u u') : PK w w' b0 box u' (y ++ z) :=
  ⟨by rw [List.length_append, u8s_app]; exact ho, (hk.1.block b0 (Blk.lt h.box) (Ne.symm (own_blk_ne h.own h.box (by decide)))).trans h.box, h.bel.trans (hk.below (Nat.le_of_lt (Blk.lt h.box)) (fun g hg => by have := (h.own.lt g hg).1; omega))⟩
end
theorem rpack_any (v : Ver) (w : World) (Ad : Option Addr) (c : Nat) (hok : v.ok) (hs : Sl w w.heap.size 1 Ad v.d.length c (u8s v.d)) :
    Calls Try.prog 68 #[tupV v (.slice Ad v.d.length c)] w fun e w' => ∃ u, e = .returned u ∧ OwnB w' w.heap.size u v.sz (u8s v.bytes) ∧ Below w.heap.size w w' := by
  have hr := hok.r
  have ha := hok.a
  have hb := hok.b
  have hp := hok.p
  have hss := hok.s
  have hd := hok.d
  have HS := Lib.hid hs
  obtain ⟨n, hn⟩ : ∃ n, v.d.length = n := ⟨_, rfl⟩
  have HN := Lib.hid hn
  rw [hn] at hd HS ⊢
  unfold tupV
  obtain ⟨p, hpp⟩ : ∃ p : Int, (v.p : Int) - 1 = p := ⟨_, rfl⟩
  obtain ⟨s, hsp⟩ : ∃ s : Int, (v.s : Int) - 1 = s := ⟨_, rfl⟩
  have hp1 : p + 1 = v.p := by omega
  have hs1 : s + 1 = v.s := by omega
  rw [hpp, hsp]
  obtain ⟨b0, hb0⟩ : ∃ b0, w.heap.size = b0 := ⟨_, rfl⟩
  obtain ⟨W1, hW1⟩ : ∃ W1, w.alloc (.cells #[.int .u64 v.r, .int .u64 v.a, .int .u64 v.b, .int .i64 p, .int .i64 s, .slice Ad n c] 33) = W1 := ⟨_, rfl⟩
  have HBX : Hid (Blk W1 b0 33 #[.int .u64 v.r, .int .u64 v.a, .int .u64 v.b, .int .i64 p, .int .i64 s, .slice Ad n c]) := Lib.hid (by rw [← hW1, ← hb0]; exact Blk.new w _ _)
  have HB1 : Hid (Below b0 w W1) := Lib.hid (by rw [← hW1, ← hb0]; exact bel_alloc _ _)
  have HW1 := Lib.hid hW1
  have hlb := Blk.lt HBX.out
  have CR : Hid (∀ w0, Calls Try.prog 67 #[.int .u64 (v.r : Nat), .int .i64 8] w0 fun e w' => ∃ u, e = .returned u ∧ OwnB w' w0.heap.size u 8 (u8s (nb v.r 8)) ∧ Below w0.heap.size w0 w') := Lib.hid (fun w0 => rfew_any v.r 8 w0 (by omega) (by omega))
  have CA : Hid (∀ w0, Calls Try.prog 67 #[.int .u64 (v.a : Nat), .int .i64 8] w0 fun e w' => ∃ u, e = .returned u ∧ OwnB w' w0.heap.size u 8 (u8s (nb v.a 8)) ∧ Below w0.heap.size w0 w') := Lib.hid (fun w0 => rfew_any v.a 8 w0 (by omega) (by omega))
  have CB : Hid (∀ w0, Calls Try.prog 67 #[.int .u64 (v.b : Nat), .int .i64 8] w0 fun e w' => ∃ u, e = .returned u ∧ OwnB w' w0.heap.size u 8 (u8s (nb v.b 8)) ∧ Below w0.heap.size w0 w') := Lib.hid (fun w0 => rfew_any v.b 8 w0 (by omega) (by omega))
  have CP : Hid (∀ w0, Calls Try.prog 67 #[.int .u64 (v.p : Nat), .int .i64 4] w0 fun e w' => ∃ u, e = .returned u ∧ OwnB w' w0.heap.size u 4 (u8s (nb v.p 4)) ∧ Below w0.heap.size w0 w') := Lib.hid (fun w0 => rfew_any v.p 4 w0 (by omega) (by omega))
  have CS : Hid (∀ w0, Calls Try.prog 67 #[.int .u64 (v.s : Nat), .int .i64 2] w0 fun e w' => ∃ u, e = .returned u ∧ OwnB w' w0.heap.size u 2 (u8s (nb v.s 2)) ∧ Below w0.heap.size w0 w') := Lib.hid (fun w0 => rfew_any v.s 2 w0 (by omega) (by omega))
  clear hs hpp hsp hok hn hW1
  go_enter Try.func68, Try.ntmps68
  go_wp2_with fail
  rw [HW1.out]
  have x0 := HBX.out.cell 0
  have x1 := HBX.out.cell 1
  go_region_held3 (fun w' => w'.cell? ⟨b0, 0, none⟩ = some (.int .u64 v.r) ∧ w'.cell? ⟨b0, 1, none⟩ = some (.int .u64 v.a)) (first | go_keep | exact ⟨hk3.cell (h3x.cell 0) (own_blk_ne ho1' h3x (by decide)), hk3.cell (h3x.cell 1) (own_blk_ne ho1' h3x (by decide))⟩ | exact ⟨h3x.cell 0, h3x.cell 1⟩ | exact ⟨h2x.cell 0, h2x.cell 1⟩)
    (first
      | (go_at_call 67; have h2y := h2x; refine (CA.out _).mono ?_; rintro e w3 ⟨u2, rfl, ho2, hb2⟩; have h3x := Blk.below h2x hb2 (Blk.lt h2x); have ho1' : OwnB w3 W1.heap.size u1 8 (u8s (nb v.r 8)) := own_keep ho1 (fun k hk => hb2.block k (ho1.lt k hk).2); have hL2 : Lies w3 w3.heap.size 1 u2 8 (u8s (nb v.a 8)) := own_lies ho2; have hsz3 : W1.heap.size ≤ w3.heap.size := Nat.le_trans hb1.size hb2.size)
      | (go_at_call 67; refine (CR.out _).mono ?_; rintro e w2 ⟨u1, rfl, ho1, hb1⟩; have h2x := Blk.below (Blk.drew HBX.out) hb1 hlb)
      | (refine step_app_b rfl (.tmp 6) (.tmp 9) rfl W1.heap.size u1 8 (u8s (nb v.r 8)) rfl ho1' w3.heap.size u2 8 (u8s (nb v.a 8)) rfl hL2 (u8s_one _) ?_ hsz3 ?_; (omega); intro v3 w4 hown3 hk3))
  have h3 : PK w w3 b0 #[.int .u64 v.r, .int .u64 v.a, .int .u64 v.b, .int .i64 p, .int .i64 s, .slice Ad n c] u1 (nb v.r 8) := ⟨by rw [nb_len]; exact own_mono ho1' hlb, h3x, (HB1.out.drew.trans (hb1.mono (Nat.le_of_lt hlb))).trans (hb2.mono (Nat.le_of_lt (Blk.lt h2x)))⟩
  have h4 := h3.app (z := nb v.a 8) (u' := v3) (by rw [nb_len, nb_len]; exact own_mono hown3 hlb) hk3
  obtain ⟨y0, hy0⟩ : ∃ y, nb v.r 8 ++ nb v.a 8 = y := ⟨_, rfl⟩
  have hl0 : y0.length = 16 := by rw [← hy0, List.length_append, nb_len, nb_len]
  rw [hy0] at h4
  have HY0 := Lib.hid hy0
  have HK0 := Lib.hid h4
  obtain ⟨B0, d0, rfl, _⟩ := Sl.of_own h4.own
  clear h3 h4 hy0 hown3 hk3 ho1 hb1 ho2 hb2 h2x h3x ho1' hL2 hsz3 x0 x1
  have x2 := HK0.out.box.cell 2
  go_wp2_with fail
  clear x2
  refine (CB.out _).mono ?_
  rintro e w5 ⟨u5, rfl, ho5, hb5⟩
  obtain ⟨A5, c5, rfl, _⟩ := Sl.of_own ho5
  have HJ := Lib.hid (HK0.out.below hb5)
  rw [hl0] at HJ
  have hwn := HJ.out.own
  rw [hl0] at hwn
  have HWN := Lib.hid hwn
  clear hwn
  have HL5 := Lib.hid (sl_own' ho5).lies
  have hsz5 := Nat.le_of_lt (Blk.lt HJ.out.box)
  have hsz6 := Blk.lt HJ.out.box
  clear ho5 hb5
  go_upto_region 3 with (at_builtin; go_loud (refine wpl_app_b rfl (.tmp 11) (.tmp 14) rfl (b0 + 1) _ 16 (u8s y0) rfl HWN.out _ _ 8 (u8s (nb v.b 8)) rfl HL5.out (u8s_one _) (by omega) hsz6 ?_; intro v7 w7 hown7 hk7))
  have h7 := HJ.out.app (z := nb v.b 8) (u' := v7) (by rw [nb_len, hl0]; exact hown7) hk7
  obtain ⟨y1, hy1⟩ : ∃ y, y0 ++ nb v.b 8 = y := ⟨_, rfl⟩
  have hl1 : y1.length = 24 := by rw [← hy1, List.length_append, nb_len, hl0]
  rw [hy1] at h7
  have HY1 := Lib.hid hy1
  have HK1 := Lib.hid h7
  obtain ⟨B1, d1, rfl, _⟩ := Sl.of_own h7.own
  clear h7 hy1 hown7 hk7 HJ HL5 hsz5 hsz6
  have x3 := HK1.out.box.cell 3
  go_wp2_with fail
  clear x3
  refine (CP.out _).mono ?_
  rintro e w5 ⟨u5, rfl, ho5, hb5⟩
  obtain ⟨A5, c5, rfl, _⟩ := Sl.of_own ho5
  have HJ := Lib.hid (HK1.out.below hb5)
  rw [hl1] at HJ
  have hwn := HJ.out.own
  rw [hl1] at hwn
  have HWN := Lib.hid hwn
  clear hwn
  have HL5 := Lib.hid (sl_own' ho5).lies
  have hsz5 := Nat.le_of_lt (Blk.lt HJ.out.box)
  have hsz6 := Blk.lt HJ.out.box
  clear ho5 hb5
  go_upto_region 4 with (at_builtin; go_loud (refine wpl_app_b rfl (.tmp 16) (.tmp 22) rfl (b0 + 1) _ 24 (u8s y1) rfl HWN.out _ _ 4 (u8s (nb v.p 4)) rfl HL5.out (u8s_one _) (by omega) hsz6 ?_; intro v7 w7 hown7 hk7))
  have h7 := HJ.out.app (z := nb v.p 4) (u' := v7) (by rw [nb_len, hl1]; exact hown7) hk7
  obtain ⟨y2, hy2⟩ : ∃ y, y1 ++ nb v.p 4 = y := ⟨_, rfl⟩
  have hl2 : y2.length = 28 := by rw [← hy2, List.length_append, nb_len, hl1]
  rw [hy2] at h7
  have HY2 := Lib.hid hy2
  have HK2 := Lib.hid h7
  obtain ⟨B2, d2, rfl, _⟩ := Sl.of_own h7.own
  clear h7 hy2 hown7 hk7 HJ HL5 hsz5 hsz6
  have x4 := HK2.out.box.cell 4
  go_wp2_with fail
  clear x4
  refine (CS.out _).mono ?_
  rintro e w5 ⟨u5, rfl, ho5, hb5⟩
  obtain ⟨A5, c5, rfl, _⟩ := Sl.of_own ho5
  have HJ := Lib.hid (HK2.out.below hb5)
  rw [hl2] at HJ
  have hwn := HJ.out.own
  rw [hl2] at hwn
  have HWN := Lib.hid hwn
  clear hwn
  have HL5 := Lib.hid (sl_own' ho5).lies
  have hsz5 := Nat.le_of_lt (Blk.lt HJ.out.box)
  have hsz6 := Blk.lt HJ.out.box
  clear ho5 hb5
  go_upto_region 5 with (at_builtin; go_loud (refine wpl_app_b rfl (.tmp 24) (.tmp 30) rfl (b0 + 1) _ 28 (u8s y2) rfl HWN.out _ _ 2 (u8s (nb v.s 2)) rfl HL5.out (u8s_one _) (by omega) hsz6 ?_; intro v7 w7 hown7 hk7))
  have h7 := HJ.out.app (z := nb v.s 2) (u' := v7) (by rw [nb_len, hl2]; exact hown7) hk7
  obtain ⟨y3, hy3⟩ : ∃ y, y2 ++ nb v.s 2 = y := ⟨_, rfl⟩
  have hl3 : y3.length = 30 := by rw [← hy3, List.length_append, nb_len, hl2]
  rw [hy3] at h7
  have HY3 := Lib.hid hy3
  have HK3 := Lib.hid h7
  obtain ⟨B3, d3, rfl, _⟩ := Sl.of_own h7.own
  clear h7 hy3 hown7 hk7 HJ HL5 hsz5 hsz6
  rw [hl3] at HK3
  try rw [hl3]
  have hwn := HK3.out.own
  rw [hl3] at hwn
  have HWN := Lib.hid hwn
  clear hwn
  have x5 := HK3.out.box.cell 5
  have hsz6 := Blk.lt HK3.out.box
  go_wp2_with (at_builtin; go_loud (refine wpl_app_b rfl (.tmp 32) (.tmp 34) rfl (b0 + 1) _ 30 (u8s y3) rfl HWN.out _ _ n (u8s v.d) rfl (HS.out.on (by rw [hb0]; exact HK3.out.bel)).lies (u8s_one _) (by omega) hsz6 ?_; intro v7 w7 hown7 hk7))
  have h7 := HK3.out.app (z := v.d) (u' := v7) (by rw [HN.out, hl3]; exact hown7) hk7
  go_ret
  refine ⟨_, rfl, ?_, by rw [hb0]; exact h7.bel⟩
  have e : y3 ++ v.d = v.bytes := by
    rw [← HY3.out, ← HY2.out, ← HY1.out, ← HY0.out]
    unfold Ver.bytes verL
    simp only [List.append_assoc]
  have ho := h7.own
  rw [e, Ver.len] at ho
  rw [hb0]
  exact own_mono ho (by omega)
end Go.Proofs.Ythghnhcopmmmpaa.Mem
/- The reference's bytes, laid slot by slot: in the end they are the page's. -/
namespace Go.Proofs.Ythghnhcopmmmpaa.Mem
open Go.RowKit Go.Proofs.Ythghnhcopmmmpaa.Nums
set_option linter.unusedVariables false
set_option linter.unusedSimpArgs false
set_option maxRecDepth 100000
/-- the header, and then the first k slots and their versions -/
def yb (L : SL) (st : Nat) : Nat → List UInt8
  | 0 => lay (lay (List.replicate 512 0) 0 (nb L.length 2)) 2 (nb st 2)
  | k + 1 => match (L[k]?).join with
    | none => yb L st k
    | some (v, f) => lay (lay (yb L st k) (4 + 4 * k) (nb f 2 ++ nb v.sz 2)) f v.bytes
/-- what has been laid -/
def Cov (L : SL) (k i : Nat) : Prop := i < 4 ∨ ∃ (j : Nat) (v : Ver) (f : Nat), j < k ∧ L[j]? = some (some (v, f)) ∧ ((4 + 4 * j ≤ i ∧ i < 8 + 4 * j) ∨ (f ≤ i ∧ i < f + v.sz))
section
variable {X : List UInt8} {L : SL} {st : Nat}
theorem yb_none {k : Nat} (h : L[k]? = some none) : yb L st (k + 1) = yb L st k := by
  show (match (L[k]?).join with | none => _ | some (v, f) => _) = _
  rw [h]
  rfl
theorem yb_some {k : Nat} {v : Ver} {f : Nat} (h : L[k]? = some (some (v, f))) : yb L st (k + 1) = lay (lay (yb L st k) (4 + 4 * k) (nb f 2 ++ nb v.sz 2)) f v.bytes := by
  show (match (L[k]?).join with | none => _ | some (v, f) => _) = _
  rw [h]
  rfl
theorem Has.yb (h : Has X L st) : ∀ k, k ≤ L.length → (yb L st k).length = 512 ∧ ∀ i, i < 512 → (Cov L k i → (Mem.yb L st k)[i]? = X[i]?) ∧ (¬ Cov L k i → (Mem.yb L st k)[i]? = some 0)
  | 0, _ => by
    have h1 := h.top
    have l1 : (lay (List.replicate 512 (0 : UInt8)) 0 (nb L.length 2)).length = 512 := by rw [lay_len (by rw [nb_len, List.length_replicate]; omega), List.length_replicate]
    have l2 : (lay (lay (List.replicate 512 (0 : UInt8)) 0 (nb L.length 2)) 2 (nb st 2)).length = 512 := by rw [lay_len (by rw [nb_len, l1]; omega), l1]
    refine ⟨l2, fun i hi => ⟨fun hc => ?_, fun hc => ?_⟩⟩
    · have hi4 : i < 4 := by
        rcases hc with hc | ⟨j, v, f, hj, _⟩
        · exact hc
        · omega
      show (lay (lay (List.replicate 512 (0 : UInt8)) 0 (nb L.length 2)) 2 (nb st 2))[i]? = X[i]?
      by_cases h2 : i < 2
      · rw [lay_other (by rw [nb_len, l1]; omega) (by omega)]
        have e1 := lay_get (X := List.replicate 512 (0 : UInt8)) (b := nb L.length 2) (a := 0) (by rw [nb_len, List.length_replicate]; omega) (j := i) (by rw [nb_len]; exact h2)
        have e2 := get_of_sub h.sl h2
        rw [Nat.zero_add] at e1 e2
        rw [e1, e2]
      · have e1 := lay_get (X := lay (List.replicate 512 (0 : UInt8)) 0 (nb L.length 2)) (b := nb st 2) (a := 2) (by rw [nb_len, l1]; omega) (j := i - 2) (by rw [nb_len]; omega)
        have e2 := get_of_sub h.bg (j := i - 2) (by omega)
        rw [show 2 + (i - 2) = i by omega] at e1 e2
        rw [e1, e2]
    · have hi4 : 4 ≤ i := by
        apply Classical.byContradiction
        intro hn
        exact hc (.inl (by omega))
      show (lay (lay (List.replicate 512 (0 : UInt8)) 0 (nb L.length 2)) 2 (nb st 2))[i]? = some 0
      rw [lay_other (by rw [nb_len, l1]; omega) (by rw [nb_len]; omega), lay_other (by rw [nb_len, List.length_replicate]; omega) (by rw [nb_len]; omega), List.getElem?_replicate, if_pos hi]
  | k + 1, hk => by
    obtain ⟨ihl, ih⟩ := h.yb k (by omega)
    have h1 := h.top
    have h2 := h.all
    obtain ⟨o, ho⟩ : ∃ o, L[k]? = some o := ⟨_, List.getElem?_eq_getElem (by omega)⟩
    cases o with
    | none =>
      rw [yb_none ho]
      have hcov : ∀ i, Cov L (k + 1) i ↔ Cov L k i := fun i => by
        constructor
        · rintro (hc | ⟨j, v, f, hj, hv, hr⟩)
          · exact .inl hc
          · refine .inr ⟨j, v, f, ?_, hv, hr⟩
            rcases Nat.lt_or_ge j k with hlt | hge
            · exact hlt
            · obtain rfl : j = k := by omega
              rw [ho] at hv
              cases hv
        · rintro (hc | ⟨j, v, f, hj, hv, hr⟩)
          · exact .inl hc
          · exact .inr ⟨j, v, f, by omega, hv, hr⟩
      exact ⟨ihl, fun i hi => by rw [hcov]; exact ih i hi⟩
    | some x =>
      obtain ⟨v, f⟩ := x
      obtain ⟨hvb, hf1, hf2⟩ := h.ver k v f ho
      have hvl := v.len
      have hbl : (nb f 2 ++ nb v.sz 2).length = 4 := by rw [List.length_append, nb_len, nb_len]
      have l1 : (lay (Mem.yb L st k) (4 + 4 * k) (nb f 2 ++ nb v.sz 2)).length = 512 := by rw [lay_len (by rw [hbl, ihl]; omega), ihl]
      rw [yb_some ho]
      refine ⟨by rw [lay_len (by rw [hvl, l1]; omega), l1], fun i hi => ?_⟩
      by_cases hA : f ≤ i ∧ i < f + v.sz
      · have e1 := lay_get (X := lay (Mem.yb L st k) (4 + 4 * k) (nb f 2 ++ nb v.sz 2)) (b := v.bytes) (a := f) (by rw [hvl, l1]; omega) (j := i - f) (by rw [hvl]; omega)
        have e2 := get_of_sub hvb (j := i - f) (by omega)
        rw [show f + (i - f) = i by omega] at e1 e2
        exact ⟨fun _ => by rw [e1, e2], fun hc => absurd (.inr ⟨k, v, f, by omega, ho, .inr hA⟩) hc⟩
      · rw [lay_other (X := lay (Mem.yb L st k) (4 + 4 * k) (nb f 2 ++ nb v.sz 2)) (by rw [hvl, l1]; omega) (by rw [hvl]; omega)]
        by_cases hB : 4 + 4 * k ≤ i ∧ i < 8 + 4 * k
        · have e1 := lay_get (X := Mem.yb L st k) (b := nb f 2 ++ nb v.sz 2) (a := 4 + 4 * k) (by rw [hbl, ihl]; omega) (j := i - (4 + 4 * k)) (by rw [hbl]; omega)
          have e2 := get_of_sub (h.slot k _ ho) (j := i - (4 + 4 * k)) (by omega)
          rw [show 4 + 4 * k + (i - (4 + 4 * k)) = i by omega] at e1 e2
          exact ⟨fun _ => by rw [e1, e2]; rfl, fun hc => absurd (.inr ⟨k, v, f, by omega, ho, .inl hB⟩) hc⟩
        · rw [lay_other (X := Mem.yb L st k) (by rw [hbl, ihl]; omega) (by rw [hbl]; omega)]
          obtain ⟨i1, i2⟩ := ih i hi
          refine ⟨fun hc => i1 ?_, fun hc => i2 fun hc2 => hc ?_⟩
          · rcases hc with hc | ⟨j, v', f', hj, hv, hr⟩
            · exact .inl hc
            · refine .inr ⟨j, v', f', ?_, hv, hr⟩
              rcases Nat.lt_or_ge j k with hlt | hge
              · exact hlt
              · obtain rfl : j = k := by omega
                rw [ho] at hv
                injection hv with hv; injection hv with hv; injection hv with q1 q2
                subst q1 q2
                rcases hr with hr | hr
                · exact absurd hr hB
                · exact absurd hr hA
          · rcases hc2 with hc2 | ⟨j, v', f', hj, hv, hr⟩
            · exact .inl hc2
            · exact .inr ⟨j, v', f', by omega, hv, hr⟩
/-- all slots laid: the page's very bytes -/
theorem Has.bytes (h : Has X L st) : Mem.yb L st L.length = X := by
  obtain ⟨hl, hi⟩ := h.yb L.length (Nat.le_refl _)
  have h1 := h.top
  apply List.ext_getElem?
  intro i
  by_cases h5 : i < 512
  · obtain ⟨a1, a2⟩ := hi i h5
    by_cases hc : Cov L L.length i
    · exact a1 hc
    · rw [a2 hc]
      have hi4 : 4 ≤ i := by
        apply Classical.byContradiction
        intro hn
        exact hc (.inl (by omega))
      by_cases hs : i < 4 + 4 * L.length
      · obtain ⟨o, ho⟩ : ∃ o, L[(i - 4) / 4]? = some o := ⟨_, List.getElem?_eq_getElem (by omega)⟩
        have e := get_of_sub (h.slot _ o ho) (j := (i - 4) % 4) (by omega)
        rw [show 4 + 4 * ((i - 4) / 4) + (i - 4) % 4 = i by omega] at e
        rw [e]
        cases o with
        | none =>
          show some 0 = (List.replicate 4 (0 : UInt8))[(i - 4) % 4]?
          rw [List.getElem?_replicate, if_pos (by omega)]
        | some x =>
          obtain ⟨v, f⟩ := x
          exact absurd (.inr ⟨(i - 4) / 4, v, f, by omega, ho, .inl (by omega)⟩) hc
      · refine (h.rest i (by omega) h5 fun s v f hv => ?_).symm
        apply Classical.byContradiction
        intro hn
        exact hc (.inr ⟨s, v, f, h.le hv, hv, .inr (by omega)⟩)
  · rw [List.getElem?_eq_none (by rw [hl]; omega), List.getElem?_eq_none (by rw [h.len]; omega)]
end
end Go.Proofs.Ythghnhcopmmmpaa.Mem
/- lapidaryref05.Bytes: the page's very bytes. -/
namespace Go.Proofs.Ythghnhcopmmmpaa.Mem
open Go.RowKit Go.Proofs.Ythghnhcopmmmpaa.Nums
set_option linter.unusedVariables false
set_option linter.unusedSimpArgs false
set_option maxRecDepth 100000
set_option maxHeartbeats 1000000
theorem wrap_i64' {z : Int} (h0 : 0 ≤ z) (h1 : z < 9223372036854775808) : IntKind.i64.wrap z = z := by rw [IntKind.wrap_i64]; omega
theorem rbytes_nil (w : World) : Calls Try.prog 20 #[.pointer none] w fun e w' => e = .returned (.slice none 0 0) ∧ w = w' := by
  go_enter Try.func20, Try.ntmps20
  go_wp2_with fail
  go_ret
  exact ⟨rfl, rfl⟩
theorem rroom_nil (w : World) : Calls Try.prog 22 #[.pointer none] w fun e w' => e = .returned (.int .i64 (-1)) ∧ w = w' := by
  go_enter Try.func22, Try.ntmps22
  go_wp2_with fail
  go_ret
  exact ⟨rfl, rfl⟩
theorem BB.own {w : World} {B g n : Nat} {X : List UInt8} (h : BB w g 5 X) (hn : X.length = n) (h0 : 0 < n) (hm : n ≤ 100000) (hB : B ≤ g) : OwnB w B (.slice (some ⟨g, 0, none⟩) n n) n (u8s X) := by
  refine ⟨?_, .inr ⟨g, n, _, rfl, ?_, h, ?_, ?_, ?_, ?_⟩⟩
  · rw [u8s_len, hn, Nat.mul_one]
  · exact hB
  · exact Nat.le_refl _
  · unfold maxLen; omega
  · rw [List.size_toArray, u8s_len, hn, Nat.mul_one]
  · rw [List.toList_toArray, Nat.mul_one, ← hn, ← u8s_len, List.take_length]
theorem rbytes_any {w : World} {F : Nat → Prop} {R st c : Nat} {E : List Ent} {A : Option Addr} {X : List UInt8} (h : RfA w F R E st A c) (hX : Has X (E.map Prod.fst) st) :
    Calls Try.prog 20 #[.pointer (some ⟨R, 0, none⟩)] w fun e w' => e = .returned (.slice (some ⟨w.heap.size, 0, none⟩) 512 512) ∧ BB w' w.heap.size 5 X ∧ Below w.heap.size w w' := by
  obtain ⟨g, hg⟩ : ∃ g, w.heap.size = g := ⟨_, rfl⟩
  obtain ⟨W1, hW1⟩ : ∃ W1, w.alloc (.cells (u8s (List.replicate 512 0)).toArray 5) = W1 := ⟨_, rfl⟩
  have hmk := make_u8 512 (by omega) w
  have HG := Lib.hid hg
  rw [hg, hW1] at hmk
  push_cast at hmk
  have HB1 : Hid (BB W1 g 5 (List.replicate 512 0)) := Lib.hid (by rw [← hW1, ← hg]; exact Blk.new w _ _)
  have HO1 : Hid (Below g w W1) := Lib.hid (by rw [← hW1, ← hg]; exact bel_alloc _ _)
  have HR1 : Hid (RfA W1 F R E st A c) := Lib.hid (h.below (by rw [hg]; exact HO1.out))
  have hlt := h.lt
  rw [hg] at hlt
  have HF : Hid (¬ F g) := Lib.hid (fun hf => by have := hlt g hf; omega)
  have hRg : R ≠ g := fun e => HF.out (e ▸ h.fr)
  have htop := hX.top
  have hall := hX.all
  have hall0 : (st : Int) ≤ 512 := by omega
  rw [List.length_map] at htop
  have HX := Lib.hid hX
  have HE := Lib.hid (HR1.out.own)
  have hle := h.le
  unfold maxLen at hle
  have x0 := HR1.out.blk.cell 0
  rw [hg]
  clear h hX hW1 hg hlt
  go_enter Try.func20, Try.ntmps20
  go_wp2_with fail
  clear x0
  have CL := Lib.hid (rfew_any E.length 2 W1 (by omega) (by omega))
  refine CL.out.mono ?_
  rintro e w2 ⟨u2, rfl, ho2, hb2⟩
  obtain ⟨A2, c2, rfl, hs2⟩ := Sl.of_own ho2
  have hg1 := Blk.lt HB1.out
  have HB2 : Hid (BB w2 g 5 (List.replicate 512 0)) := Lib.hid (Blk.below HB1.out hb2 hg1)
  have HS2 := Lib.hid hs2
  have HN2 : Hid (∀ ad, A2 = some ad → 0 < 2 → ad.block ≠ g) := Lib.hid (by
    rintro ad rfl _ he
    have := (ho2.lt ad.block rfl).1
    omega)
  have HB12 : Hid (Below g w w2) := Lib.hid (HO1.out.trans (hb2.mono (Nat.le_of_lt hg1)))
  have HR2 := Lib.hid (HR1.out.below hb2)
  clear ho2 hb2 hs2
  go_wp2_with fail
  refine (rlay_any g 5 (List.replicate 512 0) (nb E.length 2) 0 512 512 2 c2 A2 w2 HB2.out (List.length_replicate ..) (by omega) (by unfold maxLen; omega) HS2.out HN2.out (by omega) (by omega)).mono ?_
  rintro e w3 ⟨rfl, hbb3, ho3⟩
  have HB3 := Lib.hid hbb3
  have HR3 := Lib.hid (HR2.out.only ho3 HF.out)
  have HB13 : Hid (Below g w w3) := Lib.hid (HB12.out.trans (ho3.below (Nat.le_of_lt (Blk.lt HB2.out)) (Nat.le_refl _)))
  clear hbb3 ho3
  have x0 := HR3.out.blk.cell 0
  have x1 := HR3.out.blk.cell 1
  go_wp2_with fail
  clear x0 x1
  have CS := Lib.hid (rfew_any st 2 w3 (by omega) (by omega))
  refine CS.out.mono ?_
  rintro e w4 ⟨u4, rfl, ho4, hb4⟩
  obtain ⟨A4, c4, rfl, hs4⟩ := Sl.of_own ho4
  have hg3 := Blk.lt HB3.out
  have HB4 := Lib.hid (Blk.below HB3.out hb4 hg3)
  have HS4 := Lib.hid hs4
  have HN4 : Hid (∀ ad, A4 = some ad → 0 < 2 → ad.block ≠ g) := Lib.hid (by
    rintro ad rfl _ he
    have := (ho4.lt ad.block rfl).1
    omega)
  have HB14 : Hid (Below g w w4) := Lib.hid (HB13.out.trans (hb4.mono (Nat.le_of_lt hg3)))
  have HR4 := Lib.hid (HR3.out.below hb4)
  clear ho4 hb4 hs4
  go_wp2_with fail
  refine (rlay_any g 5 (lay (List.replicate 512 0) 0 (nb E.length 2)) (nb st 2) 2 512 512 2 c4 A4 w4 HB4.out (by rw [lay_len (by rw [nb_len, List.length_replicate]; omega), List.length_replicate]) (by omega) (by unfold maxLen; omega) HS4.out HN4.out (by omega) (by omega)).mono ?_
  rintro e w5 ⟨rfl, hbb5, ho5⟩
  have HB5 : Hid (BB w5 g 5 (yb (E.map Prod.fst) st 0)) := Lib.hid (by
    have h := hbb5
    unfold yb
    rw [List.length_map]
    exact h)
  have HR5 := Lib.hid (HR4.out.only ho5 HF.out)
  have HB15 : Hid (Below g w w5) := Lib.hid (HB14.out.trans (ho5.below (Nat.le_of_lt (Blk.lt HB4.out)) (Nat.le_refl _)))
  clear hbb5 ho5 CL CS HB2 HS2 HN2 HB12 HR2 HB3 HR3 HB13 HB4 HS4 HN4 HB14 HR4 HE hmk HB1 HO1 HR1 hg1 hg3
  have x0 := HR5.out.blk.cell 0
  go_wp2_with fail
  clear x0
  go_loopw [31] (fun i wr => ∃ k : Nat, k ≤ E.length ∧ i = .int .i64 k ∧ BB wr g 5 (yb (E.map Prod.fst) st k) ∧ RfA wr F R E st A c ∧ Below g w wr) (fun i _ => E.length - (intOf i).toNat)
  case atStart => exact ⟨0, by omega, rfl, HB5.out, HR5.out, HB15.out⟩
  case round =>
    obtain ⟨k, hk, rfl, hbk, hrk, hwk⟩ := hrel
    have HK := Lib.hid hbk
    have HR := Lib.hid hrk
    have HW := Lib.hid hwk
    clear hbk hrk hwk HB5 HR5 HB15
    by_cases hlt : k < E.length
    · have hlt' : (k : Int) < E.length := by omega
      obtain ⟨⟨o, u⟩, he⟩ : ∃ e, E[k]? = some e := ⟨_, List.getElem?_eq_getElem hlt⟩
      have HM := Lib.hid (map_at he)
      obtain ⟨ga, cur, rfl, hga, _, _, hFa⟩ := HR.out.arr hlt
      cases o with
      | none =>
        obtain ⟨y0, y1, y2, y3, y4, y5, y6, y7⟩ := HR.out.free8 he rfl
        go_wp2_with fail
        go_roundw
        case rel => exact ⟨k + 1, by omega, by go_num, by rw [yb_none HM.out]; exact Blk.alloc HK.out _, HR.out.below (bel_alloc _ _), HW.out.trans ((bel_alloc _ _).mono (by have := HW.out.size; rw [HG.out] at this; exact this))⟩
        case measure => simp [intOf]; omega
      | some x =>
        obtain ⟨v, f⟩ := x
        obtain ⟨A', c', rfl, hsl⟩ := Sl.of_own (HR.out.data k v f u he).1
        obtain ⟨y0, y1, y2, y3, y4, y5, y6, y7⟩ := HR.out.full8 he rfl
        obtain ⟨b0, hb0⟩ : ∃ b0, wr.heap.size = b0 := ⟨_, rfl⟩
        obtain ⟨W2, hW2⟩ : ∃ W2, wr.alloc (.cells #[.bool true, .int .u64 v.r, .int .u64 v.a, .int .u64 v.b, .int .i64 ((v.p : Int) - 1), .int .i64 ((v.s : Int) - 1), .slice A' v.d.length c', .int .i64 f] 122) = W2 := ⟨_, rfl⟩
        have HW2 := Lib.hid hW2
        have HB0 := Lib.hid hb0
        have HBX : Hid (Blk W2 b0 122 #[.bool true, .int .u64 v.r, .int .u64 v.a, .int .u64 v.b, .int .i64 ((v.p : Int) - 1), .int .i64 ((v.s : Int) - 1), .slice A' v.d.length c', .int .i64 f]) := Lib.hid (by rw [← hW2, ← hb0]; exact Blk.new _ _ _)
        have HK2 : Hid (BB W2 g 5 (yb (E.map Prod.fst) st k)) := Lib.hid (by rw [← hW2]; exact Blk.alloc HK.out _)
        have HR2 : Hid (RfA W2 F R E st (some ⟨ga, 0, none⟩) c) := Lib.hid (by rw [← hW2]; exact HR.out.below (bel_alloc _ _))
        have HW2b : Hid (Below g w W2) := Lib.hid (by rw [← hW2]; exact HW.out.trans ((bel_alloc _ _).mono (by have := HW.out.size; rw [HG.out] at this; exact this)))
        have hgb : g < b0 := by rw [← hb0]; exact Blk.lt HK.out
        have hlb := Blk.lt HBX.out
        have hbg : b0 ≠ g := by omega
        have HOK := Lib.hid (HX.out.okv k v f HM.out)
        obtain ⟨hvb, hf1, hf2⟩ := HX.out.ver k v f HM.out
        have hsz : v.sz = 30 + v.d.length := rfl
        have hdl := HOK.out.d
        have hd0 : (v.d.length : Int) ≤ 200 := by omega
        have hf0 : (f : Int) ≤ 512 := by omega
        have hk0 : (k : Int) ≤ 127 := by omega
        have HYL : Hid ((yb (E.map Prod.fst) st k).length = 512) := Lib.hid (HX.out.yb k (by rw [List.length_map]; omega)).1
        have CF : Hid (∀ (w0 : World) (z : Int), z = f → Calls Try.prog 67 #[.int .u64 z, .int .i64 2] w0 fun e w' => ∃ u, e = .returned u ∧ OwnB w' w0.heap.size u 2 (u8s (nb f 2)) ∧ Below w0.heap.size w0 w') := Lib.hid (fun w0 z hz => by rw [hz]; exact rfew_any f 2 w0 (by omega) (by omega))
        have CZ : Hid (∀ (w0 : World) (z : Int), z = 30 + (v.d.length : Int) → Calls Try.prog 67 #[.int .u64 z, .int .i64 2] w0 fun e w' => ∃ u, e = .returned u ∧ OwnB w' w0.heap.size u 2 (u8s (nb v.sz 2)) ∧ Below w0.heap.size w0 w') := Lib.hid (fun w0 z hz => by
          rw [hz]
          have h := rfew_any v.sz 2 w0 (by omega) (by omega)
          have e : ((v.sz : Nat) : Int) = 30 + (v.d.length : Int) := by omega
          rw [e] at h
          exact h)
        have CL1 : Hid (∀ (w0 : World) (Ab : Option Addr) (cb : Nat) (z : Int), z = 4 + 4 * (k : Int) → BB w0 g 5 (yb (E.map Prod.fst) st k) → Sl w0 w0.heap.size 1 Ab 4 cb (u8s (nb f 2 ++ nb v.sz 2)) → (∀ ad, Ab = some ad → 0 < 4 → ad.block ≠ g) → Calls Try.prog 66 #[.slice (some ⟨g, 0, none⟩) 512 512, .int .i64 z, .slice Ab 4 cb] w0 fun e w' => e = .returned (.tuple #[]) ∧ BB w' g 5 (lay (yb (E.map Prod.fst) st k) (4 + 4 * k) (nb f 2 ++ nb v.sz 2)) ∧ Only g w0 w') := Lib.hid (fun w0 Ab cb z hz h1 h2 h3 => by
          rw [hz]
          have h := rlay_any g 5 (yb (E.map Prod.fst) st k) (nb f 2 ++ nb v.sz 2) (4 + 4 * k) 512 512 4 cb Ab w0 h1 HYL.out (by omega) (by unfold maxLen; omega) h2 h3 (by omega) (by omega)
          have e : ((4 + 4 * k : Nat) : Int) = 4 + 4 * (k : Int) := by omega
          rw [e] at h
          exact h)
        clear hvb hf1 hf2 hsz hdl hW2 HK HR HW hb0 hga hFa
        go_wp2_with fail
        rw [HW2.out]
        rw [HB0.out]
        have x6 := HBX.out.cell 6
        have x7 := HBX.out.cell 7
        go_region_held3 (fun w' => w'.cell? ⟨b0, 6, none⟩ = some (.slice A' v.d.length c') ∧ w'.cell? ⟨b0, 7, none⟩ = some (.int .i64 f)) (first | go_keep | exact ⟨h5x.cell 6, h5x.cell 7⟩ | exact ⟨hk3.cell (h3x.cell 6) (own_blk_ne ho1' h3x (by decide)), hk3.cell (h3x.cell 7) (own_blk_ne ho1' h3x (by decide))⟩ | exact ⟨h3x.cell 6, h3x.cell 7⟩ | exact ⟨h2x.cell 6, h2x.cell 7⟩)
          (first
            | (go_at_call 66; obtain ⟨A4, c4, rfl, hs4⟩ := Sl.of_own (show OwnB w4 W2.heap.size v3 4 _ from hown3); have h4b := hb12.trans (hk3.below (Nat.le_trans hb1.size hb2.size) (fun g hg => (ho1'.lt g hg).1)); have h4x := Blk.below (Blk.drew HBX.out) h4b hlb; refine (CL1.out _ A4 c4 _ (by first | omega | (rw [IntKind.wrap_u64]; omega) | (rw [wrap_i64' (by omega) (by omega), IntKind.wrap_u64]; omega) | (rw [wrap_i64' (z := 4 * (k : Int)) (by omega) (by omega), wrap_i64' (by omega) (by omega)])) (Blk.below (Blk.drew HK2.out) h4b (Nat.lt_trans hgb hlb)) (by rw [u8s_app]; exact hs4) (by rintro ad rfl _ he; have := (hown3.lt ad.block rfl).1; omega)).mono ?_; rintro e w5 ⟨rfl, hbb5, ho5⟩; have h5x := ho5.blk h4x hbg)
            | (go_at_call 67; have h2y := h2x; refine (CZ.out _ _ (by first | omega | (rw [IntKind.wrap_u64]; omega) | (rw [wrap_i64' (by omega) (by omega), IntKind.wrap_u64]; omega) | (rw [wrap_i64' (z := 4 * (k : Int)) (by omega) (by omega), wrap_i64' (by omega) (by omega)]))).mono ?_; rintro e w3 ⟨u2, rfl, ho2, hb2⟩; have h3x := Blk.below h2x hb2 (Blk.lt h2x); have ho1' : OwnB w3 W2.heap.size u1 2 (u8s (nb f 2)) := own_keep ho1 (fun k hk => hb2.block k (ho1.lt k hk).2); have hL2 : Lies w3 w3.heap.size 1 u2 2 (u8s (nb v.sz 2)) := own_lies ho2; have hsz3 : W2.heap.size ≤ w3.heap.size := Nat.le_trans hb1.size hb2.size; have hb12 : Below W2.heap.size W2.drew w3 := hb1.trans (hb2.mono hb1.size))
            | (go_at_call 67; refine (CF.out _ _ (by first | omega | (rw [IntKind.wrap_u64]; omega) | (rw [wrap_i64' (by omega) (by omega), IntKind.wrap_u64]; omega) | (rw [wrap_i64' (z := 4 * (k : Int)) (by omega) (by omega), wrap_i64' (by omega) (by omega)]))).mono ?_; rintro e w2 ⟨u1, rfl, ho1, hb1⟩; have h2x := Blk.below (Blk.drew HBX.out) hb1 hlb)
            | (refine step_app_b rfl (.tmp 45) (.tmp 52) rfl W2.heap.size u1 2 (u8s (nb f 2)) rfl ho1' w3.heap.size u2 2 (u8s (nb v.sz 2)) rfl hL2 (u8s_one _) ?_ hsz3 ?_; (omega); intro v3 w4 hown3 hk3))
        have HK5 := Lib.hid hbb5
        have HBX5 := Lib.hid h5x
        have HR5 : Hid (RfA w5 F R E st (some ⟨ga, 0, none⟩) c) := Lib.hid (((HR2.out.keep (w' := W2.drew) (fun _ _ => rfl) (Nat.le_refl _)).below h4b).only ho5 HF.out)
        have HW5 : Hid (Below g w w5) := Lib.hid ((HW2b.out.drew.trans (h4b.mono (Nat.le_of_lt (Nat.lt_trans hgb hlb)))).trans (ho5.below (Nat.le_of_lt (Nat.lt_of_lt_of_le (Nat.lt_trans hgb hlb) h4b.size)) (Nat.le_refl _)))
        have hlb5 := Blk.lt h5x
        have hlg5 := Blk.lt hbb5
        have HE := Lib.hid he
        have HYL5 : Hid ((lay (yb (E.map Prod.fst) st k) (4 + 4 * k) (nb f 2 ++ nb v.sz 2)).length = 512) := Lib.hid (by rw [lay_len (by rw [List.length_append, nb_len, nb_len, HYL.out]; omega), HYL.out])
        have HVR := Lib.hid (HX.out.ver k v f HM.out)
        have CP : Hid (∀ w0 : World, RfA w0 F R E st (some ⟨ga, 0, none⟩) c → Calls Try.prog 68 #[.agg #[.int .u64 v.r, .int .u64 v.a, .int .u64 v.b, .int .i64 ((v.p : Int) - 1), .int .i64 ((v.s : Int) - 1), .slice A' v.d.length c']] w0 fun e w' => ∃ u, e = .returned u ∧ OwnB w' w0.heap.size u v.sz (u8s v.bytes) ∧ Below w0.heap.size w0 w') := Lib.hid (fun w0 h0 => rpack_any v w0 A' c' HOK.out (sl_own' (h0.data k v f _ HE.out).1))
        have CL2 : Hid (∀ (w0 : World) (Ab : Option Addr) (cb : Nat), BB w0 g 5 (lay (yb (E.map Prod.fst) st k) (4 + 4 * k) (nb f 2 ++ nb v.sz 2)) → Sl w0 w0.heap.size 1 Ab v.sz cb (u8s v.bytes) → (∀ ad, Ab = some ad → 0 < v.sz → ad.block ≠ g) → Calls Try.prog 66 #[.slice (some ⟨g, 0, none⟩) 512 512, .int .i64 f, .slice Ab v.sz cb] w0 fun e w' => e = .returned (.tuple #[]) ∧ BB w' g 5 (yb (E.map Prod.fst) st (k + 1)) ∧ Only g w0 w') := Lib.hid (fun w0 Ab cb h1 h2 h3 => by
          have h4 := HVR.out.2.2
          have h := rlay_any g 5 _ v.bytes f 512 512 v.sz cb Ab w0 h1 HYL5.out (by omega) (by unfold maxLen; omega) h2 h3 (by omega) (by omega)
          rw [yb_some HM.out]
          exact h)
        clear hbb5 ho5 h4x h4b hown3 hk3 hL2 hsz3 hb12 ho1' ho1 hb1 ho2 hb2 h2x h2y h3x hs4 CF CZ CL1 HW2 HBX HK2 HR2 HW2b x6 x7 y0 y1 y2 y3 y4 y5 y6 y7 hsl he
        go_wp2_with fail
        have z1 := HBX5.out.cell 1
        have z2 := HBX5.out.cell 2
        have z3 := HBX5.out.cell 3
        have z4 := HBX5.out.cell 4
        have z5 := HBX5.out.cell 5
        have z6 := HBX5.out.cell 6
        have z7 := HBX5.out.cell 7
        go_region_held3 (fun w' => w'.cell? ⟨b0, 1, none⟩ = some (.int .u64 v.r) ∧ w'.cell? ⟨b0, 2, none⟩ = some (.int .u64 v.a) ∧ w'.cell? ⟨b0, 3, none⟩ = some (.int .u64 v.b) ∧ w'.cell? ⟨b0, 4, none⟩ = some (.int .i64 ((v.p : Int) - 1)) ∧ w'.cell? ⟨b0, 5, none⟩ = some (.int .i64 ((v.s : Int) - 1)) ∧ w'.cell? ⟨b0, 6, none⟩ = some (.slice A' v.d.length c') ∧ w'.cell? ⟨b0, 7, none⟩ = some (.int .i64 f)) (first | go_keep | exact ⟨h7x.cell 1, h7x.cell 2, h7x.cell 3, h7x.cell 4, h7x.cell 5, h7x.cell 6, h7x.cell 7⟩ | exact ⟨h6x.cell 1, h6x.cell 2, h6x.cell 3, h6x.cell 4, h6x.cell 5, h6x.cell 6, h6x.cell 7⟩ | exact ⟨h5x.cell 1, h5x.cell 2, h5x.cell 3, h5x.cell 4, h5x.cell 5, h5x.cell 6, h5x.cell 7⟩)
          (first
            | (go_at_call 66; obtain ⟨A6, c6, rfl, hs6⟩ := Sl.of_own ho6; refine (CL2.out _ A6 c6 (Blk.below (Blk.drew HK5.out) hb6 hlg5) hs6 (by rintro ad rfl _ he; have := (ho6.lt ad.block rfl).1; have h9 : w5.drew.heap.size = w5.heap.size := rfl; omega)).mono ?_; rintro e w7 ⟨rfl, hbb7, ho7⟩; have h7x := ho7.blk h6x hbg)
            | (go_at_call 68; refine (CP.out _ (HR5.out.keep (w' := w5.drew) (fun _ _ => rfl) (Nat.le_refl _))).mono ?_; rintro e w6 ⟨u6, rfl, ho6, hb6⟩; have h6x := Blk.below (Blk.drew HBX5.out) hb6 hlb5))
        have HK7 := Lib.hid hbb7
        have HR7 : Hid (RfA w7 F R E st (some ⟨ga, 0, none⟩) c) := Lib.hid (((HR5.out.keep (w' := w5.drew) (fun _ _ => rfl) (Nat.le_refl _)).below hb6).only ho7 HF.out)
        have HW7 : Hid (Below g w w7) := Lib.hid ((HW5.out.drew.trans (hb6.mono (Nat.le_of_lt hlg5))).trans (ho7.below (Nat.le_of_lt (Nat.lt_of_lt_of_le hlg5 hb6.size)) (Nat.le_refl _)))
        clear hbb7 ho7 ho6 hb6 hs6 h6x h7x h5x HK5 HR5 HW5 HBX5 CP CL2 HVR HYL5 HYL z1 z2 z3 z4 z5 z6 z7
        go_wp2_with fail
        go_roundw
        case rel => exact ⟨k + 1, by omega, by go_num, HK7.out, HR7.out, HW7.out⟩
        case measure => simp [intOf]; omega
    · obtain rfl : k = E.length := by omega
      go_wp2_with fail
      go_ret
      refine ⟨rfl, ?_, HW.out⟩
      have h9 := HX.out.bytes
      rw [List.length_map] at h9
      rw [← h9]
      exact HK.out
end Go.Proofs.Ythghnhcopmmmpaa.Mem
/- a heap's steps; the document's example, worked out. -/
namespace Go.Proofs.Ythghnhcopmmmpaa.Hea
open Go.RowKit Go.Proofs.Ythghnhcopmmmpaa.Nums Go.Proofs.Ythghnhcopmmmpaa.Mem Go.Proofs.Ythghnhcopmmmpaa.Room
set_option linter.unusedVariables false
set_option linter.unusedSimpArgs false
set_option maxRecDepth 100000
set_option maxHeartbeats 1000000
/-- a heap of these pages, all its blocks newer than w's -/
structure HF (w wl : World) (F : Nat → Prop) (H PL : Nat) (l : List PgE) : Prop where
  ha : ∃ A c M Ar cr, HA wl F H PL l (rooms l) A c M Ar cr
  pl : ¬ F PL
  ge : ∀ g, F g → w.heap.size ≤ g
/-- F, and all that is new from w to w' -/
def New (F : Nat → Prop) (w w' : World) (g : Nat) : Prop := F g ∨ (w.heap.size ≤ g ∧ g < w'.heap.size)
section
variable {w wl w' : World} {F G : Nat → Prop} {H PL k n c0 : Nat} {l : List PgE} {A0 : Option Addr}
theorem HF.lt (h : HF w wl F H PL l) : ∀ g, F g → g < wl.heap.size := by obtain ⟨A, c, M, Ar, cr, ha⟩ := h.ha; exact ha.lt
theorem HF.fH (h : HF w wl F H PL l) : F H := by obtain ⟨A, c, M, Ar, cr, ha⟩ := h.ha; exact ha.fH
theorem HF.keep (h : HF w wl F H PL l) (hk : ∀ g, F g → w'.heap[g]? = wl.heap[g]?) (hs : wl.heap.size ≤ w'.heap.size) : HF w w' F H PL l := by
  obtain ⟨A, c, M, Ar, cr, ha⟩ := h.ha
  exact ⟨⟨A, c, M, Ar, cr, ha.keep hk hs⟩, h.pl, h.ge⟩
theorem HF.below (h : HF w wl F H PL l) (hb : Below wl.heap.size wl w') : HF w w' F H PL l := h.keep (fun g hg => hb.block g (h.lt g hg)) hb.size
theorem HF.turn (h : HF w wl F H PL l) (ht : Turn G wl w') (hG : ∀ g, F g → ¬ G g) : HF w w' F H PL l := h.keep (fun g hg => ht.block g (h.lt g hg) (hG g hg)) ht.size
theorem ins_s (h : HF w wl F H PL l) (hp : Pool wl PL k) (hw : w.heap.size ≤ wl.heap.size) (hlk : l.length + k ≤ 256) (r a b : Nat) (p s : Int) (d : List UInt8) (hn : d.length = n) (hs : Sl wl wl.heap.size 1 A0 n c0 (u8s d)) :
    Calls Try.prog 51 #[.pointer (some ⟨H, 0, none⟩), .agg #[.int .u64 r, .int .u64 a, .int .u64 b, .int .i64 p, .int .i64 s, .slice A0 n c0]] wl fun e w' => ∃ (pg sl er : Int) (l' : List PgE) (k' : Nat), e = .returned (.tuple #[.agg #[.int .i64 pg, .int .i64 sl], .int .i64 er]) ∧ InsTo l k r a b p s d pg sl er l' k' ∧ HF w w' (New F wl w') H PL l' ∧ Pool w' PL k' ∧ Turn (fun g => F g ∨ g = PL) wl w' := by
  obtain ⟨A, c, M, Ar, cr, ha⟩ := h.ha
  refine (insert_h ha hp h.pl hlk r a b p s d hn hs).mono ?_
  rintro e w' ⟨pg, sl, er, l', k', A', c', M', Ar', cr', he, hi, ha', hp', ht⟩
  have hPL : PL < wl.heap.size := Blk.lt hp
  exact ⟨pg, sl, er, l', k', he, hi, ⟨⟨A', c', M', Ar', cr', ha'⟩, (fun hg => hg.elim h.pl (fun q => by omega)), fun g hg => hg.elim (h.ge g) (fun q => by omega)⟩, hp', ht⟩
theorem free_s (h : HF w wl F H PL l) (hPL : PL < wl.heap.size) (hw : w.heap.size ≤ wl.heap.size) (hl : l.length ≤ 256) {i : Nat} {x : PgE} (hi : l[i]? = some x) (sl er : Int) (L' : SL) (hf : FreeTo x.L sl er L') :
    Calls Try.prog 47 #[.pointer (some ⟨H, 0, none⟩), .agg #[.int .i64 i, .int .i64 sl]] wl fun e w' => e = .returned (.int .i64 er) ∧ HF w w' (New F wl w') H PL (l.set i ⟨x.b, L', x.st⟩) ∧ Turn F wl w' := by
  obtain ⟨A, c, M, Ar, cr, ha⟩ := h.ha
  refine (free_some ha hl hi sl er L' hf).mono ?_
  rintro e w' ⟨Ar', cr', he, ha', ht⟩
  exact ⟨he, ⟨⟨A, c, M, Ar', cr', ha'⟩, (fun hg => hg.elim h.pl (fun q => by omega)), fun g hg => hg.elim (h.ge g) (fun q => by omega)⟩, ht⟩
theorem drop_s (h : HF w wl F H PL l) (hp : Pool wl PL k) (hw : w.heap.size ≤ wl.heap.size) (hlk : l.length + k ≤ 256) :
    Calls Try.prog 49 #[.pointer (some ⟨H, 0, none⟩)] wl fun e w' => e = .returned (.int .i64 l.length) ∧ HF w w' (New F wl w') H PL [] ∧ Pool w' PL (k + l.length) ∧ Turn (fun g => F g ∨ g = PL) wl w' := by
  obtain ⟨A, c, M, Ar, cr, ha⟩ := h.ha
  refine (drop_h ha hp h.pl hlk).mono ?_
  rintro e w' ⟨A', c', M', Ar', cr', he, ha', hp', ht⟩
  have hPL : PL < wl.heap.size := Blk.lt hp
  exact ⟨he, ⟨⟨A', c', M', Ar', cr', ha'⟩, (fun hg => hg.elim h.pl (fun q => by omega)), fun g hg => hg.elim (h.ge g) (fun q => by omega)⟩, hp', ht⟩
theorem pages_s (h : HF w wl F H PL l) : Calls Try.prog 58 #[.pointer (some ⟨H, 0, none⟩)] wl fun e w' => e = .returned (.int .i64 l.length) ∧ wl = w' := by
  obtain ⟨A, c, M, Ar, cr, ha⟩ := h.ha
  exact pages_h ha
theorem new_s (PL : Nat) (hw : w.heap.size ≤ wl.heap.size) (hPL : PL < wl.heap.size) : Calls Try.prog 44 #[.pointer (some ⟨PL, 0, none⟩)] wl fun e w' => ∃ H, e = .returned (.pointer (some ⟨H, 0, none⟩)) ∧ HF w w' (New (fun _ => False) wl w') H PL [] ∧ Below wl.heap.size wl w' := by
  refine (new_h PL wl).mono ?_
  rintro e w' ⟨H, M, he, ha, hb⟩
  exact ⟨H, he, ⟨⟨_, _, M, _, _, ha.more (fun g hg => .inr hg) (fun g hg => hg.elim False.elim (fun q => q.2))⟩, (fun hg => hg.elim id (fun q => by omega)), fun g hg => hg.elim False.elim (fun q => by omega)⟩, hb⟩
end
/-- the example's version -/
def dW : List UInt8 := List.replicate 200 0
theorem dW_len : dW.length = 200 := List.length_replicate ..
def vW : Ver := mkV 1 1 0 (-1) (-1) dW
theorem vW_sz : vW.sz = 230 := by show 30 + dW.length = 230; rw [dW_len]
theorem tot1 (f : Nat) : tot [some (vW, f)] = 230 := by simp [tot, osz, vW_sz]
theorem tot2 (f g : Nat) : tot [some (vW, f), some (vW, g)] = 460 := by simp [tot, osz, vW_sz]
theorem tot3 (g : Nat) : tot [none, some (vW, g)] = 230 := by simp [tot, osz, vW_sz]
theorem room0 : roomL [] = 474 := by decide
theorem room1 (f : Nat) : roomL [some (vW, f)] = 240 := by
  unfold roomL
  rw [tot1, show nextL [some (vW, f)] = 1 from rfl]
  rfl
theorem room2 (f g : Nat) : roomL [some (vW, f), some (vW, g)] = 6 := by
  unfold roomL
  rw [tot2, show nextL [some (vW, f), some (vW, g)] = 2 from rfl]
  rfl
theorem room3 (g : Nat) : roomL [none, some (vW, g)] = 240 := by
  unfold roomL
  rw [tot3, show nextL [none, some (vW, g)] = 0 from rfl]
  rfl
theorem insR_w {L : SL} {st : Nat} (h : 200 ≤ roomL L) : insR L st 1 1 0 (-1) (-1) dW = ((nextL L : Int), 0, (insS L st vW).1, (insS L st vW).2) := by
  unfold insR
  rw [dW_len, if_pos (by decide), if_neg (by omega)]
  rfl
theorem ins0 : insS [] 512 vW = ([some (vW, 282)], 282) := by
  unfold insS
  rw [vW_sz]
  rfl
theorem ins1 : insS [some (vW, 282)] 282 vW = ([some (vW, 282), some (vW, 52)], 52) := by
  unfold insS
  rw [vW_sz]
  rfl
theorem aw1 {pg sl er : Int} {l' : List PgE} {k' : Nat} (h : InsTo [] 1 1 1 0 (-1) (-1) dW pg sl er l' k') : pg = 0 ∧ sl = 0 ∧ er = 0 ∧ k' = 0 ∧ ∃ nb, l' = [⟨nb, [some (vW, 282)], 282⟩] := by
  have hi := insR_w (L := []) (st := 512) (by rw [room0]; omega)
  rw [ins0] at hi
  rcases h with ⟨h, _⟩ | ⟨_, ⟨h, _⟩ | ⟨_, h, _⟩ | ⟨_, h1, h2, h3, h4, nb, h5⟩⟩
  · cases h
  · rw [hi] at h; exact absurd rfl h
  · cases h
  · rw [hi] at h4 h5
    exact ⟨h3, h4, h2, by omega, nb, h5⟩
theorem aw2 {nb : Nat} {pg sl er : Int} {l' : List PgE} {k' : Nat} (h : InsTo [⟨nb, [some (vW, 282)], 282⟩] 0 1 1 0 (-1) (-1) dW pg sl er l' k') : pg = 0 ∧ sl = 1 ∧ er = 0 ∧ k' = 0 ∧ l' = [⟨nb, [some (vW, 282), some (vW, 52)], 52⟩] := by
  have hi := insR_w (L := [some (vW, 282)]) (st := 282) (by rw [room1]; omega)
  rw [ins1] at hi
  have hf : findR (rooms [⟨nb, [some (vW, 282)], 282⟩]) dW.length = (0, true) := by
    show findR [roomL [some (vW, 282)]] _ = _
    rw [room1, dW_len]
    decide
  rw [InsTo, hf] at h
  rcases h with ⟨_, h1, i, x, h2, h3, h4, h5, h6⟩ | ⟨h, _⟩
  · obtain rfl : i = 0 := by have : ((0 : Int)) = i := h2; omega
    injection h3 with h3
    subst h3
    rw [hi] at h4 h5 h6
    rcases h6 with ⟨_, h7, h8⟩ | ⟨h7, _⟩
    · exact ⟨h7, h8, h4, h1, h5⟩
    · exact absurd h4 h7
  · cases h
theorem aw3 {nb : Nat} {pg sl er : Int} {l' : List PgE} {k' : Nat} (h : InsTo [⟨nb, [some (vW, 282), some (vW, 52)], 52⟩] 0 1 1 0 (-1) (-1) dW pg sl er l' k') : pg = 0 ∧ sl = 0 ∧ er = 12 ∧ k' = 0 ∧ l' = [⟨nb, [some (vW, 282), some (vW, 52)], 52⟩] := by
  have hi := insR_w (L := []) (st := 512) (by rw [room0]; omega)
  have hf : findR (rooms [⟨nb, [some (vW, 282), some (vW, 52)], 52⟩]) dW.length = (0, false) := by
    show findR [roomL [some (vW, 282), some (vW, 52)]] _ = _
    rw [room2, dW_len]
    decide
  rw [InsTo, hf] at h
  rcases h with ⟨h, _⟩ | ⟨_, ⟨h, _⟩ | ⟨_, h1, h2, h3, h4, h5, h6⟩ | ⟨_, h1, _⟩⟩
  · cases h
  · rw [hi] at h; exact absurd rfl h
  · exact ⟨h3, h4, h2, h6, h5⟩
  · omega
theorem aw4 : FreeTo [some (vW, 282), some (vW, 52)] 0 0 [none, some (vW, 52)] :=
  .inr ⟨vW, 282, 2, rfl, rfl, ⟨by decide, fun j h1 h2 => absurd h2 (by show ¬ j < 2; omega), fun _ => ⟨(vW, 52), rfl⟩⟩, rfl⟩
theorem aw5 {nb : Nat} {pg sl er : Int} {l' : List PgE} {k' : Nat} (h : InsTo [⟨nb, [none, some (vW, 52)], 52⟩] 0 1 1 0 (-1) (-1) dW pg sl er l' k') : pg = 0 ∧ sl = 0 ∧ er = 0 ∧ k' = 0 := by
  have hi := insR_w (L := [none, some (vW, 52)]) (st := 52) (by rw [room3]; omega)
  have hf : findR (rooms [⟨nb, [none, some (vW, 52)], 52⟩]) dW.length = (0, true) := by
    show findR [roomL [none, some (vW, 52)]] _ = _
    rw [room3, dW_len]
    decide
  rw [InsTo, hf] at h
  rcases h with ⟨_, h1, i, x, h2, h3, h4, h5, h6⟩ | ⟨h, _⟩
  · obtain rfl : i = 0 := by have : ((0 : Int)) = i := h2; omega
    injection h3 with h3
    subst h3
    rw [hi] at h4 h6
    rcases h6 with ⟨_, h7, h8⟩ | ⟨h7, _⟩
    · exact ⟨h7, h8, h4, h1⟩
    · exact absurd h4 h7
  · cases h
theorem wide_ret {w : World} {T : Nat} {v0 v1 v2 v3 v4 v5 : Value} {tmps : Array Value} (h : Blk w T 33 #[v0, v1, v2, v3, v4, v5]) (h4 : tmps.getD 0 undef = .pointer (some ⟨T, 0, none⟩)) :
    (results Try.f57 tmps).run Try.prog w = .ok (.agg #[v0, v1, v2, v3, v4, v5]) w := by
  have r0 := h.cell 0
  have r1 := h.cell 1
  have r2 := h.cell 2
  have r3 := h.cell 3
  have r4 := h.cell 4
  have r5 := h.cell 5
  have g4 : tmps[0]?.getD undef = .pointer (some ⟨T, 0, none⟩) := by simpa using h4
  simp at r0 r1 r2 r3 r4 r5
  simp [results, Try.results57, go_sem, g4, r0, r1, r2, r3, r4, r5]
theorem wide_any (w : World) : Calls Try.prog 57 #[] w fun e w' => ∃ A c, e = .returned (.agg #[.int .u64 1, .int .u64 1, .int .u64 0, .int .i64 (-1), .int .i64 (-1), .slice A 200 c]) ∧ OwnB w' w.heap.size (.slice A 200 c) 200 (u8s dW) ∧ Below w.heap.size w w' := by
  obtain ⟨T, hT⟩ : ∃ T, w.heap.size = T := ⟨_, rfl⟩
  obtain ⟨W1, hW1⟩ : ∃ W1, w.alloc (.cells #[.int .u64 0, .int .u64 0, .int .u64 0, .int .i64 0, .int .i64 0, .slice none 0 0] 33) = W1 := ⟨_, rfl⟩
  obtain ⟨g, hg⟩ : ∃ g, W1.heap.size = g := ⟨_, rfl⟩
  obtain ⟨W2, hW2⟩ : ∃ W2, W1.alloc (.cells (u8s (List.replicate 200 0)).toArray 5) = W2 := ⟨_, rfl⟩
  have hmk := make_u8 200 (by omega) W1
  rw [hg, hW2] at hmk
  push_cast at hmk
  have hbT1 : Blk W1 T 33 #[.int .u64 0, .int .u64 0, .int .u64 0, .int .i64 0, .int .i64 0, .slice none 0 0] := by rw [← hW1, ← hT]; exact Blk.new w _ _
  have hbT2 : Blk W2 T 33 #[.int .u64 0, .int .u64 0, .int .u64 0, .int .i64 0, .int .i64 0, .slice none 0 0] := by rw [← hW2]; exact Blk.alloc hbT1 _
  have hbb : Blk W2 g 5 (u8s (List.replicate 200 0)).toArray := by rw [← hW2, ← hg]; exact Blk.new W1 _ _
  have hbl : Below w.heap.size w W2 := by rw [← hW2]; exact bel_trans (by rw [← hW1]; exact bel_alloc _ _) (bel_alloc _ _)
  have hTg : T < g := by rw [← hg]; exact Blk.lt hbT1
  have HT2 := Lib.hid hbT2
  have HBB := Lib.hid hbb
  have HBL := Lib.hid hbl
  have HTG := Lib.hid (And.intro hTg hT)
  have HW1 := Lib.hid hW1
  have x0 := hbT2.frozen 0
  have x1 := hbT2.frozen 1
  have x2 := hbT2.frozen 2
  have x3 := hbT2.frozen 3
  have x4 := hbT2.frozen 4
  have x5 := hbT2.frozen 5
  have y0 := hbT2.cell 0
  have y1 := hbT2.cell 1
  have y2 := hbT2.cell 2
  have y3 := hbT2.cell 3
  have y4 := hbT2.cell 4
  have y5 := hbT2.cell 5
  rw [← hW1] at hmk
  rw [← hT] at x0 x1 x2 x3 x4 x5 y0 y1 y2 y3 y4 y5
  clear hbT1 hbT2 hbb hbl hTg hW1 hg hW2 hT
  go_enter Try.func57, Try.ntmps57
  go_wp2_with fail
  rw [HTG.out.2]
  have hs := Blk.set_ (Blk.set_ (Blk.set_ (Blk.set_ (Blk.set_ (Blk.set_ HT2.out 0 (.int .u64 1)) 1 (.int .u64 1)) 2 (.int .u64 0)) 3 (.int .i64 (-1))) 4 (.int .i64 (-1))) 5 (.slice (some ⟨g, 0, none⟩) 200 200)
  have ho : Only T W2 _ := ((((((Only.refl T W2).set_ 0 (.int .u64 1)).set_ 1 (.int .u64 1)).set_ 2 (.int .u64 0)).set_ 3 (.int .i64 (-1))).set_ 4 (.int .i64 (-1))).set_ 5 (.slice (some ⟨g, 0, none⟩) 200 200)
  refine bodyPost_ret (wide_ret hs rfl) rfl ?_
  refine ⟨some ⟨g, 0, none⟩, 200, rfl, ?_, ?_⟩
  · have hbg := ho.blk HBB.out (by have := HTG.out.1; omega)
    exact BB.own hbg (List.length_replicate ..) (by omega) (by omega) (by have := HTG.out; omega)
  · have hq := HBL.out
    rw [HTG.out.2] at hq
    exact hq.trans (ho.below (by have := hq.size; have := HTG.out.2; omega) (Nat.le_refl _))
end Go.Proofs.Ythghnhcopmmmpaa.Hea
/- lapidarylaw07.awake. -/
namespace Go.Proofs.Ythghnhcopmmmpaa.Hea
open Go.RowKit Go.Proofs.Ythghnhcopmmmpaa.Nums Go.Proofs.Ythghnhcopmmmpaa.Mem Go.Proofs.Ythghnhcopmmmpaa.Room
set_option linter.unusedVariables false
set_option linter.unusedSimpArgs false
set_option maxRecDepth 100000
set_option maxHeartbeats 4000000
theorem sl_own' {w : World} {B n c : Nat} {e : TypeId} {A : Option Addr} {xs : List Value} (h : w.ownsRow B e 1 (.slice A n c) n xs) : Sl w w.heap.size 1 A n c xs := by
  obtain ⟨A', c', hv, hs⟩ := Sl.of_own h
  injection hv with h1 _ h3
  subst h1 h3
  exact hs
/-- between the example's steps: one heap, its pool, and the places that were told, in boxes of their own -/
structure AW (w wl : World) (F : Nat → Prop) (H PL : Nat) (l : List PgE) (k : Nat) : Prop where
  hf : HF w wl F H PL l
  pool : Pool wl PL k
  bel : Below w.heap.size w wl
  pge : w.heap.size ≤ PL
section
variable {w wl w' : World} {F G : Nat → Prop} {H PL k : Nat} {l : List PgE}
theorem AW.below (h : AW w wl F H PL l k) (hb : Below wl.heap.size wl w') : AW w w' F H PL l k :=
  ⟨h.hf.below hb, Blk.below h.pool hb (Blk.lt h.pool), h.bel.trans (hb.mono h.bel.size), h.pge⟩
theorem AW.turn {F' : Nat → Prop} {l' : List PgE} {k' : Nat} (h : AW w wl F H PL l k) (hf : HF w w' F' H PL l') (hp : Pool w' PL k') (ht : Turn (fun g => F g ∨ g = PL) wl w') : AW w w' F' H PL l' k' :=
  ⟨hf, hp, h.bel.trans (ht.below h.bel.size (fun g hg => hg.elim (h.hf.ge g) (fun q => by rw [q]; exact h.pge))), h.pge⟩
/-- a box that is none of the heap's stays -/
theorem AW.box {T : Nat} {t : TypeId} {cs : Array Value} (h : AW w wl F H PL l k) (hb : Blk wl T t cs) (hT : ¬ F T) (hP : T ≠ PL) (ht : Turn (fun g => F g ∨ g = PL) wl w') : Blk w' T t cs ∧ ¬ New F wl w' T :=
  ⟨(ht.block T (Blk.lt hb) (fun hg => hg.elim hT hP)).trans hb, fun hg => hg.elim hT (fun q => by have := Blk.lt hb; omega)⟩
end
theorem awake7 (w : World) : Calls Try.prog 41 #[] w fun e w' => e = .returned (.bool true) ∧ Below w.heap.size w w' := by
  go_enter Try.func41, Try.ntmps41
  go_wp2_with fail
  refine (pool_new 1 (by omega) w).mono ?_
  rintro e w1 ⟨rfl, hp1, hb1⟩
  obtain ⟨PL, hPL⟩ : ∃ PL, w.heap.size = PL := ⟨_, rfl⟩
  rw [hPL] at hp1 ⊢
  have HP1 := Lib.hid hp1
  have HB1 := Lib.hid hb1
  have HPL := Lib.hid hPL
  clear hp1 hb1 hPL
  go_wp2_with fail
  refine (new_s (w := w) PL HB1.out.size (Blk.lt HP1.out)).mono ?_
  rintro e w2 ⟨H, rfl, hf2, hb2⟩
  obtain ⟨F2, hF2⟩ : ∃ F2, New (fun _ => False) w1 w2 = F2 := ⟨_, rfl⟩
  rw [hF2] at hf2
  have A2 : Hid (AW w w2 F2 H PL [] 1) := Lib.hid ⟨hf2, Blk.below HP1.out hb2 (Blk.lt HP1.out), HB1.out.trans (hb2.mono HB1.out.size), by rw [HPL.out]; exact Nat.le_refl _⟩
  clear hf2 hb2 hF2 HP1 HB1
  go_wp2_with fail
  refine (wide_any w2).mono ?_
  rintro e w3a ⟨Ad3, cd3, rfl, hod, hba⟩
  have A3a := Lib.hid (A2.out.below hba)
  have HOD := Lib.hid hod
  clear hod hba
  go_wp2_with fail
  refine (ins_s A3a.out.hf A3a.out.pool A3a.out.bel.size (by simp) 1 1 0 (-1) (-1) dW dW_len (sl_own' HOD.out)).mono ?_
  rintro e w3b ⟨pg, sl, er, l3, k3, rfl, hi, hf, hp, ht⟩
  obtain ⟨rfl, rfl, rfl, rfl, nb, rfl⟩ := aw1 hi
  have A3b := Lib.hid (A3a.out.turn hf hp ht)
  obtain ⟨F3, hF3⟩ : ∃ F3, New F2 w3a w3b = F3 := ⟨_, rfl⟩
  rw [hF3] at A3b
  obtain ⟨T3, hT3⟩ : ∃ T3, w3b.heap.size = T3 := ⟨_, rfl⟩
  obtain ⟨w3, hw3⟩ : ∃ w3, w3b.alloc (.cells #[.int .i64 0, .int .i64 0] 30) = w3 := ⟨_, rfl⟩
  have hbc : Below w3b.heap.size w3b w3 := by rw [← hw3]; exact bel_alloc _ _
  have A3 := Lib.hid (A3b.out.below hbc)
  have X3 : Hid (Blk w3 T3 30 #[.int .i64 0, .int .i64 0] ∧ ¬ F3 T3 ∧ T3 ≠ PL) := Lib.hid ⟨by rw [← hw3, ← hT3]; exact Blk.new w3b _ _, (fun hg => by have := A3b.out.hf.lt _ hg; omega), by have := Blk.lt A3b.out.pool; omega⟩
  have HW3 := Lib.hid (And.intro hw3 hT3)
  clear hf hp ht hbc hw3 hT3 hF3 A3a A3b HOD A2
  go_upto_region 6 with fail
  rw [HW3.out.1, HW3.out.2]
  go_wp2_with fail
  refine (wide_any w3).mono ?_
  rintro e w4a ⟨Ad4, cd4, rfl, hod, hba⟩
  have A4a := Lib.hid (A3.out.below hba)
  have HOD := Lib.hid hod
  have X34a := Lib.hid (And.intro (Blk.below X3.out.1 hba (Blk.lt X3.out.1)) X3.out.2)
  clear hod hba
  go_wp2_with fail
  refine (ins_s A4a.out.hf A4a.out.pool A4a.out.bel.size (by simp) 1 1 0 (-1) (-1) dW dW_len (sl_own' HOD.out)).mono ?_
  rintro e w4b ⟨pg, sl, er, l4, k4, rfl, hi, hf, hp, ht⟩
  obtain ⟨rfl, rfl, rfl, rfl, rfl⟩ := aw2 hi
  have A4b := Lib.hid (A4a.out.turn hf hp ht)
  obtain ⟨F4, hF4⟩ : ∃ F4, New F3 w4a w4b = F4 := ⟨_, rfl⟩
  have hbx := A4a.out.box X34a.out.1 X34a.out.2.1 X34a.out.2.2 ht
  rw [hF4] at hbx
  have X34b := Lib.hid (And.intro hbx.1 (And.intro hbx.2 X34a.out.2.2))
  clear hbx
  rw [hF4] at A4b
  obtain ⟨T4, hT4⟩ : ∃ T4, w4b.heap.size = T4 := ⟨_, rfl⟩
  obtain ⟨w4, hw4⟩ : ∃ w4, w4b.alloc (.cells #[.int .i64 0, .int .i64 1] 30) = w4 := ⟨_, rfl⟩
  have hbc : Below w4b.heap.size w4b w4 := by rw [← hw4]; exact bel_alloc _ _
  have A4 := Lib.hid (A4b.out.below hbc)
  have X4 : Hid (Blk w4 T4 30 #[.int .i64 0, .int .i64 1] ∧ ¬ F4 T4 ∧ T4 ≠ PL) := Lib.hid ⟨by rw [← hw4, ← hT4]; exact Blk.new w4b _ _, (fun hg => by have := A4b.out.hf.lt _ hg; omega), by have := Blk.lt A4b.out.pool; omega⟩
  have X3 := Lib.hid (And.intro (Blk.below X34b.out.1 hbc (Blk.lt X34b.out.1)) X34b.out.2)
  have HW4 := Lib.hid (And.intro hw4 hT4)
  clear hf hp ht hbc hw4 hT4 hF4 A4a A4b HOD A3
  go_upto_region 7 with fail
  rw [HW4.out.1, HW4.out.2]
  go_wp2_with fail
  refine (wide_any w4).mono ?_
  rintro e w5a ⟨Ad5, cd5, rfl, hod, hba⟩
  have A5a := Lib.hid (A4.out.below hba)
  have HOD := Lib.hid hod
  have X35a := Lib.hid (And.intro (Blk.below X3.out.1 hba (Blk.lt X3.out.1)) X3.out.2)
  have X45a := Lib.hid (And.intro (Blk.below X4.out.1 hba (Blk.lt X4.out.1)) X4.out.2)
  clear hod hba
  go_wp2_with fail
  refine (ins_s A5a.out.hf A5a.out.pool A5a.out.bel.size (by simp) 1 1 0 (-1) (-1) dW dW_len (sl_own' HOD.out)).mono ?_
  rintro e w5b ⟨pg, sl, er, l5, k5, rfl, hi, hf, hp, ht⟩
  obtain ⟨rfl, rfl, rfl, rfl, rfl⟩ := aw3 hi
  have A5b := Lib.hid (A5a.out.turn hf hp ht)
  obtain ⟨F5, hF5⟩ : ∃ F5, New F4 w5a w5b = F5 := ⟨_, rfl⟩
  have hbx := A5a.out.box X35a.out.1 X35a.out.2.1 X35a.out.2.2 ht
  rw [hF5] at hbx
  have X35b := Lib.hid (And.intro hbx.1 (And.intro hbx.2 X35a.out.2.2))
  clear hbx
  have hbx := A5a.out.box X45a.out.1 X45a.out.2.1 X45a.out.2.2 ht
  rw [hF5] at hbx
  have X45b := Lib.hid (And.intro hbx.1 (And.intro hbx.2 X45a.out.2.2))
  clear hbx
  rw [hF5] at A5b
  obtain ⟨T5, hT5⟩ : ∃ T5, w5b.heap.size = T5 := ⟨_, rfl⟩
  obtain ⟨w5, hw5⟩ : ∃ w5, w5b.alloc (.cells #[.int .i64 0, .int .i64 0] 30) = w5 := ⟨_, rfl⟩
  have hbc : Below w5b.heap.size w5b w5 := by rw [← hw5]; exact bel_alloc _ _
  have A5 := Lib.hid (A5b.out.below hbc)
  have X5 : Hid (Blk w5 T5 30 #[.int .i64 0, .int .i64 0] ∧ ¬ F5 T5 ∧ T5 ≠ PL) := Lib.hid ⟨by rw [← hw5, ← hT5]; exact Blk.new w5b _ _, (fun hg => by have := A5b.out.hf.lt _ hg; omega), by have := Blk.lt A5b.out.pool; omega⟩
  have X3 := Lib.hid (And.intro (Blk.below X35b.out.1 hbc (Blk.lt X35b.out.1)) X35b.out.2)
  have X4 := Lib.hid (And.intro (Blk.below X45b.out.1 hbc (Blk.lt X45b.out.1)) X45b.out.2)
  have HW5 := Lib.hid (And.intro hw5 hT5)
  clear hf hp ht hbc hw5 hT5 hF5 A5a A5b HOD A4
  go_upto_region 8 with fail
  rw [HW5.out.1, HW5.out.2]
  have x0 := X3.out.1.cell 0
  have x1 := X3.out.1.cell 1
  go_wp2_with fail
  clear x0 x1
  refine (free_s (i := 0) A5.out.hf (Blk.lt A5.out.pool) A5.out.bel.size (by simp) rfl 0 0 [none, some (vW, 52)] aw4).mono ?_
  rintro e w7 ⟨rfl, hf7, ht7⟩
  obtain ⟨F7, hF7⟩ : ∃ F7, New F5 w5 w7 = F7 := ⟨_, rfl⟩
  have hp7 : Pool w7 PL 0 := (ht7.block PL (Blk.lt A5.out.pool) A5.out.hf.pl).trans A5.out.pool
  have ht7' : Turn (fun g => F5 g ∨ g = PL) w5 w7 := ⟨ht7.os, ht7.tape, ht7.output, ht7.size, fun q hq hn => ht7.block q hq (fun hg => hn (.inl hg))⟩
  have A7 := Lib.hid (A5.out.turn hf7 hp7 ht7')
  have hbx := A5.out.box X3.out.1 X3.out.2.1 X3.out.2.2 ht7'
  rw [hF7] at hbx
  have X3 := Lib.hid (And.intro hbx.1 (And.intro hbx.2 X3.out.2.2))
  clear hbx
  have hbx := A5.out.box X4.out.1 X4.out.2.1 X4.out.2.2 ht7'
  rw [hF7] at hbx
  have X4 := Lib.hid (And.intro hbx.1 (And.intro hbx.2 X4.out.2.2))
  clear hbx
  have hbx := A5.out.box X5.out.1 X5.out.2.1 X5.out.2.2 ht7'
  rw [hF7] at hbx
  have X5 := Lib.hid (And.intro hbx.1 (And.intro hbx.2 X5.out.2.2))
  clear hbx
  rw [hF7] at A7
  clear hf7 hp7 ht7 ht7' hF7 A5
  go_wp2_with fail
  refine (wide_any w7).mono ?_
  rintro e w6a ⟨Ad6, cd6, rfl, hod, hba⟩
  have A6a := Lib.hid (A7.out.below hba)
  have HOD := Lib.hid hod
  have X36a := Lib.hid (And.intro (Blk.below X3.out.1 hba (Blk.lt X3.out.1)) X3.out.2)
  have X46a := Lib.hid (And.intro (Blk.below X4.out.1 hba (Blk.lt X4.out.1)) X4.out.2)
  have X56a := Lib.hid (And.intro (Blk.below X5.out.1 hba (Blk.lt X5.out.1)) X5.out.2)
  clear hod hba
  go_wp2_with fail
  refine (ins_s A6a.out.hf A6a.out.pool A6a.out.bel.size (by simp) 1 1 0 (-1) (-1) dW dW_len (sl_own' HOD.out)).mono ?_
  rintro e w6b ⟨pg, sl, er, l6, k6, rfl, hi, hf, hp, ht⟩
  obtain ⟨rfl, rfl, rfl, rfl⟩ := aw5 hi
  have A6b := Lib.hid (A6a.out.turn hf hp ht)
  obtain ⟨F6, hF6⟩ : ∃ F6, New F7 w6a w6b = F6 := ⟨_, rfl⟩
  have hbx := A6a.out.box X36a.out.1 X36a.out.2.1 X36a.out.2.2 ht
  rw [hF6] at hbx
  have X36b := Lib.hid (And.intro hbx.1 (And.intro hbx.2 X36a.out.2.2))
  clear hbx
  have hbx := A6a.out.box X46a.out.1 X46a.out.2.1 X46a.out.2.2 ht
  rw [hF6] at hbx
  have X46b := Lib.hid (And.intro hbx.1 (And.intro hbx.2 X46a.out.2.2))
  clear hbx
  have hbx := A6a.out.box X56a.out.1 X56a.out.2.1 X56a.out.2.2 ht
  rw [hF6] at hbx
  have X56b := Lib.hid (And.intro hbx.1 (And.intro hbx.2 X56a.out.2.2))
  clear hbx
  rw [hF6] at A6b
  obtain ⟨T6, hT6⟩ : ∃ T6, w6b.heap.size = T6 := ⟨_, rfl⟩
  obtain ⟨w6, hw6⟩ : ∃ w6, w6b.alloc (.cells #[.int .i64 0, .int .i64 0] 30) = w6 := ⟨_, rfl⟩
  have hbc : Below w6b.heap.size w6b w6 := by rw [← hw6]; exact bel_alloc _ _
  have A6 := Lib.hid (A6b.out.below hbc)
  have X6 : Hid (Blk w6 T6 30 #[.int .i64 0, .int .i64 0] ∧ ¬ F6 T6 ∧ T6 ≠ PL) := Lib.hid ⟨by rw [← hw6, ← hT6]; exact Blk.new w6b _ _, (fun hg => by have := A6b.out.hf.lt _ hg; omega), by have := Blk.lt A6b.out.pool; omega⟩
  have X3 := Lib.hid (And.intro (Blk.below X36b.out.1 hbc (Blk.lt X36b.out.1)) X36b.out.2)
  have X4 := Lib.hid (And.intro (Blk.below X46b.out.1 hbc (Blk.lt X46b.out.1)) X46b.out.2)
  have X5 := Lib.hid (And.intro (Blk.below X56b.out.1 hbc (Blk.lt X56b.out.1)) X56b.out.2)
  have HW6 := Lib.hid (And.intro hw6 hT6)
  clear hf hp ht hbc hw6 hT6 hF6 A6a A6b HOD A7
  go_upto_region 10 with fail
  rw [HW6.out.1, HW6.out.2]
  have x0 := X3.out.1.cell 0
  have x1 := X3.out.1.cell 1
  have y0 := X6.out.1.cell 0
  have y1 := X6.out.1.cell 1
  go_wp2_with fail
  clear x0 x1 y0 y1
  refine (left_any A6.out.pool).mono ?_
  rintro e w9 ⟨rfl, rfl⟩
  go_wp2_with fail
  go_ret
  exact ⟨rfl, A6.out.bel⟩
end Go.Proofs.Ythghnhcopmmmpaa.Hea
/- What lies at a heap's places. -/
namespace Go.Proofs.Ythghnhcopmmmpaa.Hea
open Go.RowKit Go.Proofs.Ythghnhcopmmmpaa.Nums Go.Proofs.Ythghnhcopmmmpaa.Mem Go.Proofs.Ythghnhcopmmmpaa.Room
set_option linter.unusedVariables false
set_option linter.unusedSimpArgs false
set_option maxRecDepth 100000
set_option maxHeartbeats 1000000
/-- the version in a page's slot -/
def atv (L : SL) (i : Int) : Option Ver := (atL L i).map (·.1)
theorem atv_nat (L : SL) (i : Nat) : atv L i = (L[i]?.join).map (·.1) := by
  unfold atv atL
  rw [if_neg (by omega), Int.toNat_natCast]
theorem atv_neg {L : SL} {i : Int} (h : i < 0) : atv L i = none := by
  unfold atv atL
  rw [if_pos h]
  rfl
theorem atv_packL (L : SL) (i : Nat) : atv (packL L) i = atv L i := by
  rw [atv_nat, atv_nat, packL_get]
  cases L[i]? with
  | none => rfl
  | some o => cases o with
    | none => rfl
    | some x => rfl
theorem atv_putL {L : SL} {q : Nat} (hq : q ≤ L.length) (v : Ver) (f : Nat) (i : Nat) : atv (putL L q (some (v, f))) i = if i = q then some v else atv L i := by
  rw [atv_nat, putL_get hq]
  by_cases h : i = q
  · rw [if_pos h, if_pos h]; rfl
  · rw [if_neg h, if_neg h, atv_nat]
theorem atv_next (L : SL) : atv L (nextL L) = none := by
  rw [atv_nat]
  by_cases h : nextL L < L.length
  · rw [nextL_free h]; rfl
  · rw [List.getElem?_eq_none (by omega)]; rfl
theorem atv_insS (L : SL) (st : Nat) (v : Ver) (i : Nat) : atv (insS L st v).1 i = if i = nextL L then some v else atv L i := by
  have hq := nextL_le L
  unfold insS
  split
  · show atv (putL (packL L) (nextL L) _) i = _
    rw [atv_putL (by rw [packL_len]; exact hq), atv_packL]
  · exact atv_putL hq v _ i
theorem atv_ins (L : SL) (st : Nat) (v : Ver) (i : Int) : atv (insS L st v).1 i = if i = nextL L then some v else atv L i := by
  by_cases h : i < 0
  · rw [atv_neg h, atv_neg h, if_neg (by omega)]
  · obtain ⟨k, rfl⟩ : ∃ k : Nat, i = k := ⟨i.toNat, by omega⟩
    rw [atv_insS]
    by_cases e : k = nextL L
    · rw [if_pos e, if_pos (by omega)]
    · rw [if_neg e, if_neg (by omega)]
theorem insR_ok {L : SL} {st r a b : Nat} {p s : Int} {d : List UInt8} (ht : tuOk r a b p s d.length = true) (hr : (d.length : Int) ≤ roomL L) : insR L st r a b p s d = ((nextL L : Int), 0, (insS L st (mkV r a b p s d)).1, (insS L st (mkV r a b p s d)).2) := by
  unfold insR
  rw [if_pos ht, if_neg (by omega)]
theorem atv_free {L L' : SL} {i : Int} (h : FreeTo L i 0 L') (j : Int) : atv L' j = if j = i then none else atv L j := by
  rcases h with ⟨_, h, _⟩ | ⟨v, f, k, h1, _, ht, rfl⟩
  · cases h
  · obtain ⟨s, rfl, hs⟩ := atL_some h1
    have hsl := (List.getElem?_eq_some_iff.1 hs).1
    by_cases hj : j < 0
    · rw [atv_neg hj, if_neg (by omega), atv_neg hj]
    · obtain ⟨q, rfl⟩ : ∃ q : Nat, j = q := ⟨j.toNat, by omega⟩
      rw [atv_nat, Int.toNat_natCast]
      by_cases e : q = s
      · subst e
        rw [if_pos rfl, List.getElem?_take]
        split
        · rw [List.getElem?_set_self hsl]; rfl
        · rfl
      · rw [if_neg (by omega), atv_nat, List.getElem?_take]
        split
        · rw [List.getElem?_set_ne (Ne.symm e)]
        · rename_i hq
          by_cases hl : q < L.length
          · have hf := ht.free q (by omega) (by rw [List.length_set]; exact hl)
            rw [Int.toNat_natCast, List.getElem?_set_ne (Ne.symm e)] at hf
            rw [hf]; rfl
          · rw [List.getElem?_eq_none (by omega)]
theorem free_of_atv {L : SL} {i : Int} {v : Ver} (h : atv L i = some v) : ∃ L', FreeTo L i 0 L' := by
  unfold atv at h
  cases ha : atL L i with
  | none => rw [ha] at h; cases h
  | some y =>
    obtain ⟨k, hk⟩ := trim_ex _ (L.set i.toNat none) rfl
    exact ⟨_, .inr ⟨y.1, y.2, k, ha, rfl, hk, rfl⟩⟩
/-- how many versions -/
theorem usedL_put {L : SL} {q : Nat} (hq : q ≤ L.length) (hf : q < L.length → L[q]? = some none) (x : Ver × Nat) : usedL (putL L q (some x)) = usedL L + 1 := by
  unfold putL
  split
  · rename_i hl
    have h0 := hf hl
    have e1 : L = L.take q ++ (none :: L.drop (q + 1)) := by
      have := List.take_append_drop q L
      rw [List.drop_eq_getElem_cons hl] at this
      have hg : L[q] = none := by have := List.getElem?_eq_getElem hl; rw [h0] at this; injection this with this; exact this.symm
      rw [hg] at this
      exact this.symm
    have e2 : L.set q (some x) = L.take q ++ (some x :: L.drop (q + 1)) := by rw [List.set_eq_take_append_cons_drop, if_pos hl]
    rw [e2]
    conv => rhs; rw [e1]
    unfold usedL
    simp [List.filter_append]
    omega
  · unfold usedL
    simp [List.filter_append]
theorem usedL_packL (L : SL) : usedL (packL L) = usedL L := by
  have : (packL L).map (·.isSome) = L.map (·.isSome) := by
    apply List.ext_getElem?
    intro i
    rw [List.getElem?_map, List.getElem?_map, packL_get]
    cases L[i]? with
    | none => rfl
    | some o => cases o <;> rfl
  have key : ∀ l : SL, usedL l = ((l.map (·.isSome)).filter id).length := fun l => by
    unfold usedL
    rw [List.filter_map, List.length_map]
    rfl
  rw [key, key, this]
theorem usedL_ins (L : SL) (st : Nat) (v : Ver) : usedL (insS L st v).1 = usedL L + 1 := by
  have hq := nextL_le L
  unfold insS
  split
  · show usedL (putL (packL L) (nextL L) _) = _
    rw [usedL_put (by rw [packL_len]; exact hq) (fun h => packL_none (nextL_free (by rw [packL_len] at h; exact h))), usedL_packL]
  · exact usedL_put hq (fun h => nextL_free h) _
theorem usedL_take_none {M : SL} : ∀ (n k : Nat), M.length = k + n → (∀ j, k ≤ j → j < M.length → M[j]? = some none) → usedL (M.take k) = usedL M
  | 0, k, h, _ => by rw [List.take_of_length_le (by omega)]
  | n + 1, k, h, hf => by
    have h1 := usedL_take_none n (k + 1) (by omega) (fun j h1 h2 => hf j (by omega) h2)
    rw [take_succ_of (hf k (Nat.le_refl _) (by omega)), usedL_snoc] at h1
    simpa using h1
theorem usedL_free {L L' : SL} {i : Int} (h : FreeTo L i 0 L') : usedL L' + 1 = usedL L := by
  rcases h with ⟨_, h, _⟩ | ⟨v, f, k, h1, _, ht, rfl⟩
  · cases h
  · obtain ⟨s, rfl, hs⟩ := atL_some h1
    have hsl := (List.getElem?_eq_some_iff.1 hs).1
    have hle := ht.le
    rw [Int.toNat_natCast] at ht hle ⊢
    rw [usedL_take_none ((L.set s none).length - k) k (by omega) ht.free]
    have e1 : L = L.take s ++ (some (v, f) :: L.drop (s + 1)) := by
      have := List.take_append_drop s L
      rw [List.drop_eq_getElem_cons hsl] at this
      have hg : L[s] = some (v, f) := by have := List.getElem?_eq_getElem hsl; rw [hs] at this; injection this with this; exact this.symm
      rw [hg] at this
      exact this.symm
    have e2 : L.set s none = L.take s ++ (none :: L.drop (s + 1)) := by rw [List.set_eq_take_append_cons_drop, if_pos hsl]
    rw [e2]
    conv => rhs; rw [e1]
    unfold usedL
    simp [List.filter_append]
    omega
/-- the version at a heap's place -/
def cont (l : List PgE) (pg sl : Int) : Option Ver := if pg < 0 then none else match l[pg.toNat]? with
  | none => none
  | some x => atv x.L sl
def useds (l : List PgE) : Nat := (l.map fun x => usedL x.L).sum
theorem cont_nat (l : List PgE) (i : Nat) (sl : Int) : cont l i sl = match l[i]? with | none => none | some x => atv x.L sl := by
  unfold cont
  rw [if_neg (by omega), Int.toNat_natCast]
theorem cont_some {l : List PgE} {pg sl : Int} {v : Ver} (h : cont l pg sl = some v) : ∃ (i : Nat) (x : PgE), pg = i ∧ l[i]? = some x ∧ atv x.L sl = some v := by
  unfold cont at h
  split at h
  · cases h
  · cases hx : l[pg.toNat]? with
    | none => rw [hx] at h; cases h
    | some x => rw [hx] at h; exact ⟨pg.toNat, x, by omega, hx, h⟩
theorem cont_set {l : List PgE} {i : Nat} {x y : PgE} (hi : l[i]? = some x) (pg sl : Int) : cont (l.set i y) pg sl = if pg = i then atv y.L sl else cont l pg sl := by
  have hl := (List.getElem?_eq_some_iff.1 hi).1
  unfold cont
  by_cases h0 : pg < 0
  · rw [if_pos h0, if_pos h0, if_neg (by omega)]
  · obtain ⟨k, rfl⟩ : ∃ k : Nat, pg = k := ⟨pg.toNat, by omega⟩
    rw [if_neg h0, if_neg h0, Int.toNat_natCast]
    by_cases e : k = i
    · subst e; rw [if_pos rfl, List.getElem?_set_self hl]
    · rw [if_neg (by omega), List.getElem?_set_ne (Ne.symm e)]
theorem useds_set {l : List PgE} {i : Nat} {x y : PgE} (hi : l[i]? = some x) : useds (l.set i y) + usedL x.L = useds l + usedL y.L := by
  have hl := (List.getElem?_eq_some_iff.1 hi).1
  have hg : l[i] = x := by have := List.getElem?_eq_getElem hl; rw [hi] at this; injection this with this; exact this.symm
  have e1 : l = l.take i ++ (x :: l.drop (i + 1)) := by
    have := List.take_append_drop i l
    rw [List.drop_eq_getElem_cons hl, hg] at this
    exact this.symm
  have e2 : l.set i y = l.take i ++ (y :: l.drop (i + 1)) := by rw [List.set_eq_take_append_cons_drop, if_pos hl]
  rw [e2]
  conv => rhs; rw [e1]
  unfold useds
  simp
  omega
/-- where one more version goes: nothing was there, it lies there, and all others where they were -/
theorem InsTo.cont {l l' : List PgE} {k k' r a b : Nat} {p s : Int} {d : List UInt8} {pg sl er : Int} (h : InsTo l k r a b p s d pg sl er l' k') (ht : tuOk r a b p s d.length = true) (hk : 0 < k) :
    er = 0 ∧ Hea.cont l pg sl = none ∧ (∀ x y, Hea.cont l' x y = if x = pg ∧ y = sl then some (mkV r a b p s d) else Hea.cont l x y) ∧ useds l' = useds l + 1 ∧ ((findR (rooms l) d.length).2 = true → l'.length = l.length) ∧ l'.length ≤ l.length + 1 := by
  have hd := (tuOk_nx ht).2.2.2.2
  rcases h with ⟨hf, rfl, i, x, h1, hx, her, rfl, hp⟩ | ⟨hf, h⟩
  · obtain ⟨i', x', h1', hx', hrm⟩ := findR_some hf
    obtain rfl : i' = i := by omega
    rw [hx] at hx'
    injection hx' with hx'
    subst hx'
    rw [insR_ok ht (by omega)] at her hp ⊢
    have her' : er = 0 := her
    rcases hp with ⟨_, rfl, rfl⟩ | ⟨hne, _⟩
    · refine ⟨her', ?_, fun q y => ?_, ?_, fun _ => List.length_set .., by rw [List.length_set]; omega⟩
      · rw [cont_nat, hx]; exact atv_next _
      · rw [cont_set hx]
        by_cases e : q = i'
        · rw [if_pos e]
          show atv (insS _ _ _).1 y = _
          rw [atv_ins]
          by_cases e2 : y = nextL x.L
          · rw [if_pos e2, if_pos ⟨e, e2⟩]
          · rw [if_neg e2, if_neg (fun h => e2 h.2), e, cont_nat, hx]
        · rw [if_neg e, if_neg (fun h => e h.1)]
      · have := useds_set (y := ⟨x.b, (insS x.L x.st (mkV r a b p s d)).1, (insS x.L x.st (mkV r a b p s d)).2⟩) hx
        have h2 := usedL_ins x.L x.st (mkV r a b p s d)
        have h3 : useds (l.set i' ⟨x.b, (insS x.L x.st (mkV r a b p s d)).1, (insS x.L x.st (mkV r a b p s d)).2⟩) + usedL x.L = useds l + usedL (insS x.L x.st (mkV r a b p s d)).1 := this
        show useds (l.set i' ⟨x.b, (insS x.L x.st (mkV r a b p s d)).1, (insS x.L x.st (mkV r a b p s d)).2⟩) = _
        omega
    · exact absurd her' hne
  · have hi := insR_ok (L := []) (st := 512) ht (by rw [room0]; omega)
    rcases h with ⟨h, _⟩ | ⟨_, h, _⟩ | ⟨_, h1, h2, h3, h4, nb, h5⟩
    · rw [hi] at h; exact absurd rfl h
    · omega
    · rw [hi] at h4 h5
      subst h2 h3 h4 h5
      refine ⟨rfl, ?_, fun q y => ?_, ?_, (fun h => by rw [hf] at h; cases h), by simp⟩
      · rw [cont_nat, List.getElem?_eq_none (Nat.le_refl _)]
      · by_cases h0 : q < 0
        · unfold Hea.cont
          rw [if_pos h0, if_pos h0, if_neg (by omega)]
        · obtain ⟨j, rfl⟩ : ∃ j : Nat, q = j := ⟨q.toNat, by omega⟩
          rw [cont_nat, cont_nat]
          by_cases hj : j < l.length
          · rw [List.getElem?_append_left hj, if_neg (by omega)]
          · by_cases e : j = l.length
            · subst e
              rw [List.getElem?_append_right (Nat.le_refl _), Nat.sub_self, List.getElem?_eq_none (Nat.le_refl _)]
              show atv (insS [] 512 _).1 y = _
              rw [atv_ins]
              show (if y = ((0 : Nat) : Int) then _ else atv [] y) = _
              by_cases e2 : y = ((0 : Nat) : Int)
              · rw [if_pos e2, if_pos ⟨rfl, e2⟩]
              · rw [if_neg e2, if_neg (fun h => e2 h.2)]
                unfold atv atL
                split <;> rfl
            · rw [List.getElem?_append_right (by omega), List.getElem?_eq_none (by simp; omega), List.getElem?_eq_none (by omega), if_neg (by omega)]
      · unfold useds
        rw [List.map_append, List.sum_append]
        have := usedL_ins [] 512 (mkV r a b p s d)
        have h0 : usedL [] = 0 := rfl
        simp
        omega
/-- .. and one that is freed -/
theorem cont_free {l : List PgE} {i : Nat} {x : PgE} {sl : Int} {L' : SL} (hi : l[i]? = some x) (hf : FreeTo x.L sl 0 L') (st : Nat) : (∀ q y, cont (l.set i ⟨x.b, L', st⟩) q y = if q = i ∧ y = sl then none else cont l q y) ∧ useds (l.set i ⟨x.b, L', st⟩) + 1 = useds l := by
  refine ⟨fun q y => ?_, ?_⟩
  · rw [cont_set hi]
    by_cases e : q = i
    · rw [if_pos e]
      show atv L' y = _
      rw [atv_free hf]
      by_cases e2 : y = sl
      · rw [if_pos e2, if_pos ⟨e, e2⟩]
      · rw [if_neg e2, if_neg (fun h => e2 h.2), e, cont_nat, hi]
    · rw [if_neg e, if_neg (fun h => e h.1)]
  · have h1 := useds_set (y := ⟨x.b, L', st⟩) hi
    have h2 := usedL_free hf
    have h3 : useds (l.set i ⟨x.b, L', st⟩) + usedL x.L = useds l + usedL L' := h1
    omega
end Go.Proofs.Ythghnhcopmmmpaa.Hea
/- heap.Used; room behind Free; places in a slice of one's own. -/
namespace Go.Proofs.Ythghnhcopmmmpaa.Hea
open Go.RowKit Go.Proofs.Ythghnhcopmmmpaa.Nums Go.Proofs.Ythghnhcopmmmpaa.Mem Go.Proofs.Ythghnhcopmmmpaa.Room
set_option linter.unusedVariables false
set_option linter.unusedSimpArgs false
set_option maxRecDepth 100000
set_option maxHeartbeats 2000000
theorem usedL_small (L : SL) : usedL L ≤ L.length := by unfold usedL; exact List.length_filter_le _ _
theorem useds_take {l : List PgE} {k : Nat} {x : PgE} (h : l[k]? = some x) : useds (l.take (k + 1)) = useds (l.take k) + usedL x.L := by
  unfold useds
  rw [take_succ_of h, List.map_append, List.sum_append]
  simp
theorem useds_le (l : List PgE) (hl : ∀ (i : Nat) (x : PgE), l[i]? = some x → x.L.length ≤ 127) : ∀ k, k ≤ l.length → useds (l.take k) ≤ 127 * k
  | 0, _ => by simp [useds]
  | k + 1, hk => by
    obtain ⟨x, hx⟩ : ∃ x, l[k]? = some x := ⟨_, List.getElem?_eq_getElem (by omega)⟩
    have := useds_le l hl k (by omega)
    have h1 := hl k x hx
    have h2 := usedL_small x.L
    rw [useds_take hx]
    omega
theorem used_s {w wl : World} {F : Nat → Prop} {H PL : Nat} {l : List PgE} (h : HF w wl F H PL l) (hl : l.length ≤ 256) :
    Calls Try.prog 59 #[.pointer (some ⟨H, 0, none⟩)] wl fun e w' => e = .returned (.int .i64 (useds l)) ∧ ∃ m, w' = wl.drewN m := by
  obtain ⟨A, c, M, Ar, cr, ha⟩ := h.ha
  have HA0 := Lib.hid ha
  have hsm := useds_le l (fun i x hx => (ha.pg i x hx).small.1)
  have HSM := Lib.hid hsm
  have CP := Lib.hid (pages_h ha)
  have hle := ha.le
  unfold maxLen at hle
  clear h ha hsm
  go_enter Try.func59, Try.ntmps59
  go_wp2_with fail
  refine CP.out.mono ?_
  rintro e w1 ⟨rfl, rfl⟩
  go_wp2_with fail
  go_loopw [3, 7] (fun u i wr => ∃ (k m : Nat), k ≤ l.length ∧ i = .int .i64 k ∧ u = .int .i64 (useds (l.take k) : Nat) ∧ wr = wl.drewN m) (fun _ i _ => l.length - (intOf i).toNat)
  case atStart => exact ⟨0, 0, by omega, rfl, by simp [useds], rfl⟩
  case round =>
    obtain ⟨k, m, hk, rfl, rfl, rfl⟩ := hrel
    have hsk := HSM.out k hk
    by_cases hlt : k < l.length
    · have hlt' : (k : Int) < l.length := by omega
      obtain ⟨x, hx⟩ : ∃ x, l[k]? = some x := ⟨_, List.getElem?_eq_getElem hlt⟩
      have hHm := HA0.out.drewN m
      obtain ⟨g, rfl, y0⟩ := hHm.arr hx
      have x1 := hHm.blk.cell 1
      have CU := Lib.hid (used_has x.b x.L x.st (wl.drewN m) (hHm.pg k x hx))
      have HT := Lib.hid (useds_take hx)
      have hs2 := HSM.out (k + 1) (by omega)
      rw [HT.out] at hs2
      have hu0 : (0 : Int) ≤ (usedL x.L : Nat) := by omega
      clear hx hHm
      go_wp2_with fail
      refine CU.out.mono ?_
      rintro e w2 ⟨rfl, m2, rfl⟩
      go_wp2_with fail
      go_roundw
      case rel => exact ⟨k + 1, m + m2, by omega, by go_num, by rw [HT.out]; push_cast; go_num, by first | rfl | simp⟩
      case measure => simp [intOf]; omega
    · obtain rfl : k = l.length := by omega
      rw [List.take_length]
      go_wp2_with fail
      go_ret
      exact ⟨rfl, m, rfl⟩
theorem used_nil7 (w : World) : Calls Try.prog 59 #[.pointer none] w fun e w' => e = .returned (.int .i64 0) ∧ w = w' := by
  go_enter Try.func59, Try.ntmps59
  go_wp2_with fail
  refine (pages_nil w).mono ?_
  rintro e w1 ⟨rfl, rfl⟩
  go_wp2_with fail
  go_loopw [3, 7] (fun u i wr => u = .int .i64 0 ∧ i = .int .i64 0 ∧ wr = w) (fun _ _ _ => 0)
  case atStart => exact ⟨rfl, rfl, rfl⟩
  case round =>
    obtain ⟨rfl, rfl, rfl⟩ := hrel
    go_wp2_with fail
    go_ret
    exact ⟨rfl, rfl⟩
theorem room_free {w : World} {P st : Nat} {L L' : SL} {i : Int} {v : Ver} (hp : Mem.Hp w P L st) (hf : FreeTo L i 0 L') (hv : atv L i = some v) : (v.d.length : Int) ≤ roomL L' := by
  obtain ⟨X, _, hx⟩ := hp
  have h1 := hx.top
  have h2 := hx.sum
  rcases hf with ⟨_, h, _⟩ | ⟨v', f, k, ha, _, ht, rfl⟩
  · cases h
  · unfold atv at hv
    rw [ha] at hv
    injection hv with hv
    have hv' : v' = v := hv
    subst hv'
    obtain ⟨s, rfl, hs⟩ := atL_some ha
    have hsl := (List.getElem?_eq_some_iff.1 hs).1
    rw [Int.toNat_natCast] at ht ⊢
    have htot := tot_set L s none (some (v', f)) hs
    have h3 := tot_take_le (L.set s none) k
    have hk := ht.le
    rw [List.length_set] at hk
    have hz : osz (some (v', f)) = 30 + v'.d.length := rfl
    have hz0 : osz none = 0 := rfl
    have hlen : ((L.set s none).take k).length = k := by rw [List.length_take, List.length_set]; omega
    have hnx : nextL ((L.set s none).take k) ≤ s := by
      apply Classical.byContradiction
      intro hn
      have hle := nextL_le ((L.set s none).take k)
      rw [hlen] at hle
      obtain ⟨y, hy⟩ := nextL_full (L := (L.set s none).take k) (j := s) (by omega)
      rw [List.getElem?_take, if_pos (by omega), List.getElem?_set_self hsl] at hy
      cases hy
    unfold roomL
    rw [hlen]
    omega
theorem findAt_false {m : Int} : ∀ {L : List Int} {k : Nat}, (findAt m L k).2 = false → ∀ (i : Nat) (r : Int), L[i]? = some r → ¬ m ≤ r
  | [], _, _, i, r, h => by simp at h
  | x :: L, k, h, i, r, hr => by
    unfold findAt at h
    by_cases hx : m ≤ x
    · rw [if_pos hx] at h; cases h
    · rw [if_neg hx] at h
      cases i with
      | zero => simp at hr; subst hr; exact hx
      | succ j => exact findAt_false h j r (by simpa using hr)
theorem find_has {l : List PgE} {i : Nat} {x : PgE} {m : Nat} (hi : l[i]? = some x) (hr : (m : Int) ≤ roomL x.L) : (findR (rooms l) m).2 = true := by
  cases h : (findR (rooms l) m).2 with
  | true => rfl
  | false => exact absurd (by omega) (findAt_false h i _ (rooms_at hi))
/-- places, one behind the other -/
def tids (l : List (Int × Int)) : List Value := l.flatMap fun x => [.int .i64 x.1, .int .i64 x.2]
theorem tids_len (l : List (Int × Int)) : (tids l).length = l.length * 2 := by
  induction l with
  | nil => rfl
  | cons x l ih => show (_ :: _ :: tids l).length = _; rw [List.length_cons, List.length_cons, ih, List.length_cons]; omega
theorem tids_app (a b : List (Int × Int)) : tids (a ++ b) = tids a ++ tids b := by simp [tids]
theorem tids_at : ∀ (l : List (Int × Int)) (k : Nat) (x : Int × Int), l[k]? = some x → (tids l)[k * 2]? = some (.int .i64 x.1) ∧ (tids l)[k * 2 + 1]? = some (.int .i64 x.2)
  | [], k, x, h => by simp at h
  | y :: l, 0, x, h => by simp at h; subst h; exact ⟨rfl, rfl⟩
  | y :: l, k + 1, x, h => by
    have ih := tids_at l k x (by simpa using h)
    have e : (k + 1) * 2 = k * 2 + 1 + 1 := by omega
    show (_ :: _ :: tids l)[(k + 1) * 2]? = _ ∧ (_ :: _ :: tids l)[(k + 1) * 2 + 1]? = _
    rw [e]
    exact ih
theorem tids_set : ∀ (l : List (Int × Int)) (k : Nat) (x : Int × Int), tids (l.set k x) = ((tids l).set (k * 2) (.int .i64 x.1)).set (k * 2 + 1) (.int .i64 x.2)
  | [], k, x => rfl
  | y :: l, 0, x => rfl
  | y :: l, k + 1, x => by
    have ih := tids_set l k x
    have e : (k + 1) * 2 = k * 2 + 1 + 1 := by omega
    show _ :: _ :: tids (l.set k x) = List.set (List.set (_ :: _ :: tids l) ((k + 1) * 2) _) ((k + 1) * 2 + 1) _
    rw [e, ih]
    rfl
theorem infoTID : (Try.prog.info? 30).map (fun i => (i.zero, i.size, i.bytes)) = some (some (.agg #[.int .i64 0, .int .i64 0]), 2, 16) := by kernel_rfl
theorem wpl_app_t {w : World} {ops : Array Oper} {rest : List Oper} {o : Oper} {a : Act} {Q : Exit → Act → World → Prop} (hgd : o.guard = none) (s x : Operand)
    (ho : o.op = .call { callee := .builtin .append, args := #[s, x], argTypes := #[101, 101] })
    (base : Nat) (v : Value) (n : Nat) (xs : List Value) (hs : a.eval s = v) (hown : w.ownsRow base 30 2 v n xs)
    (B : Nat) (y : Value) (m : Nat) (news : List Value) (hy : a.eval x = y) (hx : Lies w B 2 y m news) (h1 : ∀ u ∈ news, u.oneCell' = true)
    (hbytes : n + m ≤ 1000000) (hbase : base ≤ w.heap.size)
    (h : ∀ v' w', w'.ownsRow base 30 2 v' (n + m) (xs ++ news) → Kin w w' v v' → wpList Try.prog ops Q rest (a.put o.dst v') w') : wpList Try.prog ops Q (o :: rest) a w := by
  obtain ⟨i, hi, hz0, hz1, hz2⟩ := info_part infoTID
  exact wpList_plain hgd fun _ hK => wp_append_mem w s x _ ho base 30 i _ 2 16 Try.underlying101 hi hz0 hz1 hz2 rfl (by omega) v n xs hs hown B y m news hy hx h1 (by unfold maxLen; omega) (by omega) hbase fun v' w' h2 h3 => hK _ _ (h v' w' h2 h3)
/-- places in a slice of one's own: read, and written over -/
structure Own2 (w : World) (base : Nat) (A : Option Addr) (c : Nat) (pl : List (Int × Int)) : Prop where
  own : w.ownsRow base 30 2 (.slice A pl.length c) pl.length (tids pl)
theorem Own2.form {w : World} {base c : Nat} {A : Option Addr} {pl : List (Int × Int)} (h : Own2 w base A c pl) {k : Nat} {x : Int × Int} (hx : pl[k]? = some x) : ∃ g cur, A = some ⟨g, 0, none⟩ ∧ Blk w g 30 cur ∧ base ≤ g ∧ cur.size = c * 2 ∧ cur.toList.take (pl.length * 2) = tids pl ∧ w.cell? ⟨g, k * 2, none⟩ = some (.int .i64 x.1) ∧ w.cell? ⟨g, k * 2 + 1, none⟩ = some (.int .i64 x.2) := by
  have hk := (List.getElem?_eq_some_iff.1 hx).1
  rcases h.own.2 with ⟨h1, h2⟩ | ⟨g, cap, cur, hv, hb, hg, hn, hm, hs, ht⟩
  · exact absurd h2 (by omega)
  · injection hv with h1 h2 h3
    subst h1 h3
    obtain ⟨q1, q2⟩ := tids_at pl k x hx
    rw [← ht, List.getElem?_take, if_pos (by omega), Array.getElem?_toList] at q1 q2
    exact ⟨g, cur, rfl, hg, hb, hs, ht, by rw [Blk.cell hg]; exact q1, by rw [Blk.cell hg]; exact q2⟩
theorem Own2.set {w : World} {base c : Nat} {A : Option Addr} {pl : List (Int × Int)} (h : Own2 w base A c pl) {k g : Nat} (hk : k < pl.length) (hA : A = some ⟨g, 0, none⟩) (x : Int × Int) : Own2 ((w.setCell ⟨g, k * 2, none⟩ (.int .i64 x.1)).setCell ⟨g, k * 2 + 1, none⟩ (.int .i64 x.2)) base A c (pl.set k x) := by
  subst hA
  refine ⟨?_⟩
  rw [List.length_set]
  rcases h.own.2 with ⟨h1, h2⟩ | ⟨g', cap, cur, hv, hb, hg, hn, hm, hs, ht⟩
  · exact absurd h2 (by omega)
  · injection hv with h1 h2 h3
    injection h1 with h1; injection h1 with h1
    subst h1 h3
    refine ⟨by rw [tids_len, List.length_set], .inr ⟨g, c, _, rfl, hb, Blk.set_ (Blk.set_ hg (k * 2) (.int .i64 x.1)) (k * 2 + 1) (.int .i64 x.2), hn, hm, by rw [Array.size_setIfInBounds, Array.size_setIfInBounds, hs], ?_⟩⟩
    rw [Array.toList_setIfInBounds, Array.toList_setIfInBounds, tids_set, ← ht, List.take_set, List.take_set]
theorem Own2.keep {w w' : World} {base c : Nat} {A : Option Addr} {pl : List (Int × Int)} (h : Own2 w base A c pl) (hk : ∀ g, (Value.slice A pl.length c).ownBlock = some g → w'.heap[g]? = w.heap[g]?) : Own2 w' base A c pl := ⟨own_keep h.own hk⟩
end Go.Proofs.Ythghnhcopmmmpaa.Hea
/- HeapSteady: its walk. -/
namespace Go.Proofs.Ythghnhcopmmmpaa.Hea
open Go.RowKit Go.Proofs.Ythghnhcopmmmpaa.Nums Go.Proofs.Ythghnhcopmmmpaa.Mem Go.Proofs.Ythghnhcopmmmpaa.Room
set_option linter.unusedVariables false
set_option linter.unusedSimpArgs false
set_option maxRecDepth 100000
set_option maxHeartbeats 8000000
/-- one heap, its pool, the places that were told, the version that is put, its Data -/
structure SM (w wl : World) (F : Nat → Prop) (H PL : Nat) (l : List PgE) (kk : Nat) (A : Option Addr) (c : Nat) (pl : List (Int × Int)) (Tt : Nat) (Ad : Option Addr) (cd m : Nat) : Prop where
  aw : AW w wl F H PL l kk
  own : Own2 wl w.heap.size A c pl
  ofr : ∀ g, (Value.slice A pl.length c).ownBlock = some g → ¬ F g ∧ g ≠ PL
  tb : Blk wl Tt 33 #[.int .u64 1, .int .u64 1, .int .u64 0, .int .i64 (-1), .int .i64 (-1), .slice Ad m cd]
  tf : ¬ F Tt ∧ Tt ≠ PL
  dat : OwnB wl w.heap.size (.slice Ad 200 cd) 200 (u8s dW)
  dfr : ∀ g, (Value.slice Ad 200 cd).ownBlock = some g → ¬ F g ∧ g ≠ PL
section
variable {w wl w' : World} {F : Nat → Prop} {H PL kk kk' c Tt cd m : Nat} {l l' : List PgE} {A Ad : Option Addr} {pl : List (Int × Int)}
theorem SM.below (h : SM w wl F H PL l kk A c pl Tt Ad cd m) (hb : Below wl.heap.size wl w') : SM w w' F H PL l kk A c pl Tt Ad cd m :=
  ⟨h.aw.below hb, h.own.keep fun g hg => hb.block g (h.own.own.lt g hg).2, h.ofr, Blk.below h.tb hb (Blk.lt h.tb), h.tf, own_keep h.dat fun g hg => hb.block g (h.dat.lt g hg).2, h.dfr⟩
theorem SM.turn (h : SM w wl F H PL l kk A c pl Tt Ad cd m) (hf : HF w w' (New F wl w') H PL l') (hp : Pool w' PL kk') (ht : Turn (fun g => F g ∨ g = PL) wl w') : SM w w' (New F wl w') H PL l' kk' A c pl Tt Ad cd m :=
  ⟨h.aw.turn hf hp ht, h.own.keep fun g hg => ht.block g (h.own.own.lt g hg).2 (fun q => q.elim (h.ofr g hg).1 (h.ofr g hg).2), fun g hg => ⟨fun q => q.elim (h.ofr g hg).1 (fun q => by have := (h.own.own.lt g hg).2; omega), (h.ofr g hg).2⟩,
    (ht.block Tt (Blk.lt h.tb) (fun q => q.elim h.tf.1 h.tf.2)).trans h.tb, ⟨fun q => q.elim h.tf.1 (fun q => by have := Blk.lt h.tb; omega), h.tf.2⟩,
    own_keep h.dat fun g hg => ht.block g (h.dat.lt g hg).2 (fun q => q.elim (h.dfr g hg).1 (h.dfr g hg).2), fun g hg => ⟨fun q => q.elim (h.dfr g hg).1 (fun q => by have := (h.dat.lt g hg).2; omega), (h.dfr g hg).2⟩⟩
/-- one block turned that is none of these -/
theorem SM.other (h : SM w wl F H PL l kk A c pl Tt Ad cd m) {v : Value} {A' : Option Addr} {c' : Nat} {pl' : List (Int × Int)} (hs : wl.heap.size ≤ w'.heap.size) (hbel : Below w.heap.size w w') (hk : ∀ k, k < wl.heap.size → (Value.slice A pl.length c).ownBlock ≠ some k → w'.heap[k]? = wl.heap[k]?)
    (ho : Own2 w' w.heap.size A' c' pl') (hfr : ∀ g, (Value.slice A' pl'.length c').ownBlock = some g → ¬ F g ∧ g ≠ PL) : SM w w' F H PL l kk A' c' pl' Tt Ad cd m := by
  have hF : ∀ g, F g → w'.heap[g]? = wl.heap[g]? := fun g hg => hk g (h.aw.hf.lt g hg) (fun e => (h.ofr g e).1 hg)
  refine ⟨⟨h.aw.hf.keep hF hs, (hk PL (Blk.lt h.aw.pool) (fun e => (h.ofr PL e).2 rfl)).trans h.aw.pool, hbel, h.aw.pge⟩, ho, hfr, (hk Tt (Blk.lt h.tb) (fun e => own_blk_ne h.own.own h.tb (by decide) e)).trans h.tb, h.tf, own_keep h.dat fun g hg => hk g (h.dat.lt g hg).2 (fun e => ?_), h.dfr⟩
  rcases h.dat.2 with ⟨q1, _⟩ | ⟨g', cap, cur, q1, _, q3, _⟩
  · rw [q1] at hg; simp [Value.ownBlock] at hg
  · rw [q1] at hg
    have : g' = g := by simpa [Value.ownBlock] using hg
    subst this
    exact own_blk_ne h.own.own q3 (by decide) e
theorem SM.app (h : SM w wl F H PL l kk A c pl Tt Ad cd m) {A' : Option Addr} {c' : Nat} {x : Int × Int} (hown : w'.ownsRow w.heap.size 30 2 (.slice A' (pl.length + 1) c') (pl.length + 1) (tids pl ++ tids [x])) (hk : Kin wl w' (.slice A pl.length c) (.slice A' (pl.length + 1) c')) : SM w w' F H PL l kk A' c' (pl ++ [x]) Tt Ad cd m := by
  have hl : (pl ++ [x]).length = pl.length + 1 := by simp
  refine h.other (v := .slice none 0 0) hk.1.size (h.aw.bel.trans (hk.below h.aw.bel.size fun g hg => (h.own.own.lt g hg).1)) (fun k h1 h2 => hk.1.block k h1 h2.symm) ⟨by rw [hl, tids_app]; exact hown⟩ fun g hg => ?_
  rw [hl] at hg
  rcases hk.2 with e | ⟨g', e, hg'⟩
  · exact h.ofr g (by rw [← e]; exact hg)
  · rw [hg] at e
    injection e with e
    subst e
    exact ⟨fun q => by have := h.aw.hf.lt g q; omega, by have := Blk.lt h.aw.pool; omega⟩
theorem SM.data (h : SM w wl F H PL l kk A c pl Tt Ad cd m) (hm : m ≤ 200) : Sl wl wl.heap.size 1 Ad m cd (u8s (dW.take m)) := by
  have := (sl_own' h.dat).take (k := m) hm
  rw [Nat.mul_one] at this
  have e : (u8s dW).take m = u8s (dW.take m) := by unfold u8s; rw [List.map_take]
  rwa [e] at this
end
def v0 (m : Nat) : Ver := mkV 1 1 0 (-1) (-1) (dW.take m)
theorem dm_len {m : Nat} (hm : m ≤ 200) : (dW.take m).length = m := by rw [List.length_take, dW_len]; omega
theorem tu0 {m : Nat} (hm : m ≤ 200) : tuOk 1 1 0 (-1) (-1) (dW.take m).length = true := by
  rw [dm_len hm]
  unfold tuOk
  rw [decide_eq_true hm]
  decide
/-- the places are apart, and at each lies that version -/
structure Pls (l : List PgE) (m : Nat) (pl : List (Int × Int)) : Prop where
  con : ∀ (i : Nat) (x : Int × Int), pl[i]? = some x → cont l x.1 x.2 = some (v0 m)
  dis : ∀ (i j : Nat) (x : Int × Int), pl[i]? = some x → pl[j]? = some x → i = j
theorem Pls.app {l l' : List PgE} {m : Nat} {pl : List (Int × Int)} {pg sl : Int} (h : Pls l m pl) (h0 : cont l pg sl = none) (h1 : ∀ x y, cont l' x y = if x = pg ∧ y = sl then some (v0 m) else cont l x y) : Pls l' m (pl ++ [(pg, sl)]) := by
  have get : ∀ (i : Nat) (x : Int × Int), (pl ++ [(pg, sl)])[i]? = some x → (i < pl.length ∧ pl[i]? = some x) ∨ (i = pl.length ∧ x = (pg, sl)) := by
    intro i x hi
    by_cases e : i < pl.length
    · rw [List.getElem?_append_left e] at hi; exact .inl ⟨e, hi⟩
    · rw [List.getElem?_append_right (by omega)] at hi
      cases hq : i - pl.length with
      | zero => rw [hq] at hi; simp at hi; exact .inr ⟨by omega, hi.symm⟩
      | succ k => rw [hq] at hi; simp at hi
  have ne : ∀ (i : Nat), pl[i]? ≠ some (pg, sl) := fun i hi => by
    have := h.con i _ hi
    rw [h0] at this
    cases this
  refine ⟨fun i x hi => ?_, fun i j x hi hj => ?_⟩
  · rw [h1]
    rcases get i x hi with ⟨_, hi⟩ | ⟨_, rfl⟩
    · rw [if_neg (fun e => ne i (by rw [hi]; exact congrArg some (Prod.ext e.1 e.2)))]
      exact h.con i x hi
    · rw [if_pos ⟨rfl, rfl⟩]
  · rcases get i x hi with ⟨_, hi⟩ | ⟨h2, rfl⟩
    · rcases get j x hj with ⟨_, hj⟩ | ⟨_, rfl⟩
      · exact h.dis i j x hi hj
      · exact absurd hi (ne i)
    · rcases get j _ hj with ⟨_, hj⟩ | ⟨h3, _⟩
      · exact absurd hj (ne j)
      · omega
theorem Pls.swap {l l1 l' : List PgE} {m k : Nat} {pl : List (Int × Int)} {x : Int × Int} {pg sl : Int} (h : Pls l m pl) (hk : pl[k]? = some x) (hf : ∀ a b, cont l1 a b = if a = x.1 ∧ b = x.2 then none else cont l a b) (h0 : cont l1 pg sl = none) (h1 : ∀ a b, cont l' a b = if a = pg ∧ b = sl then some (v0 m) else cont l1 a b) : Pls l' m (pl.set k (pg, sl)) := by
  have hkl := (List.getElem?_eq_some_iff.1 hk).1
  have get : ∀ (i : Nat) (y : Int × Int), (pl.set k (pg, sl))[i]? = some y → (i = k ∧ y = (pg, sl)) ∨ (i ≠ k ∧ pl[i]? = some y) := by
    intro i y hi
    by_cases e : i = k
    · subst e
      rw [List.getElem?_set_self hkl] at hi
      injection hi with hi
      exact .inl ⟨rfl, hi.symm⟩
    · rw [List.getElem?_set_ne (Ne.symm e)] at hi
      exact .inr ⟨e, hi⟩
  have old : ∀ (i : Nat) (y : Int × Int), i ≠ k → pl[i]? = some y → cont l1 y.1 y.2 = some (v0 m) := fun i y hi hy => by
    rw [hf, if_neg (fun e => hi (h.dis i k y hy (by rw [hk]; exact congrArg some (Prod.ext e.1.symm e.2.symm))))]
    exact h.con i y hy
  have ne : ∀ (i : Nat), i ≠ k → pl[i]? ≠ some (pg, sl) := fun i hi hy => by
    have := old i _ hi hy
    rw [h0] at this
    cases this
  refine ⟨fun i y hi => ?_, fun i j y hi hj => ?_⟩
  · rw [h1]
    rcases get i y hi with ⟨_, rfl⟩ | ⟨h2, hy⟩
    · rw [if_pos ⟨rfl, rfl⟩]
    · rw [if_neg (fun e => ne i h2 (by rw [hy]; exact congrArg some (Prod.ext e.1 e.2)))]
      exact old i y h2 hy
  · rcases get i y hi with ⟨h2, rfl⟩ | ⟨h2, hy⟩
    · rcases get j _ hj with ⟨h3, _⟩ | ⟨h3, hj⟩
      · omega
      · exact absurd hj (ne j h3)
    · rcases get j y hj with ⟨_, rfl⟩ | ⟨_, hj⟩
      · exact absurd hy (ne i h2)
      · exact h.dis i j y hy hj
theorem Pls.nil (l : List PgE) (m : Nat) : Pls l m [] := ⟨fun i x h => by simp at h, fun i j x h => by simp at h⟩
theorem ins_len {l : List PgE} {k r a b : Nat} {p s : Int} {d : List UInt8} {pg sl er : Int} {l' : List PgE} {k' : Nat} (h : InsTo l k r a b p s d pg sl er l' k') : l'.length + k' = l.length + k := by
  rcases h with ⟨_, rfl, i, x, _, _, _, rfl, _⟩ | ⟨_, ⟨_, _, _, _, rfl, rfl⟩ | ⟨_, rfl, _, _, _, rfl, rfl⟩ | ⟨_, rfl, _, _, _, nb, rfl⟩⟩
  · rw [List.length_set]
  · rfl
  · rfl
  · simp; omega
theorem bel_drewN' (w : World) (m : Nat) : Below w.heap.size w (w.drewN m) := ⟨rfl, rfl, rfl, Nat.le_refl _, fun _ _ => rfl⟩
theorem steady_walk (w : World) (sz mz : Int) (xs : List UInt8) (A0 : Option Addr) (n c0 : Nat) (hsz : 0 ≤ sz ∧ sz ≤ 255) (hmz : 0 ≤ mz ∧ mz ≤ 255) (hxl : xs.length = n) (hs : Sl w w.heap.size 1 A0 n c0 (u8s xs)) :
    Calls Try.prog 10 #[.int .u8 sz, .int .u8 mz, .slice A0 n c0] w fun e w' => e = .returned (.bool true) ∧ Below w.heap.size w w' := by
  have hcap := hs.cap
  have hle := hs.le
  unfold maxLen at hcap
  have HS := Lib.hid hs
  have HL := Lib.hid hxl
  obtain ⟨m, hm⟩ : ∃ m : Nat, sz % 201 = (m : Int) := ⟨(sz % 201).toNat, by omega⟩
  obtain ⟨q, hq⟩ : ∃ q : Nat, mz % 30 = (q : Int) := ⟨(mz % 30).toNat, by omega⟩
  have hm200 : m ≤ 200 := by omega
  have HM := Lib.hid hm200
  have hmI : (m : Int) ≤ 200 := by omega
  have hq29 : q ≤ 29 := by omega
  have hqI : (q : Int) ≤ 29 := by omega
  have hz0 := hsz.1
  have hz1 := hsz.2
  have hy0 := hmz.1
  have hy1 := hmz.2
  clear hs hxl hsz hmz
  go_enter Try.func10, Try.ntmps10
  go_wp2_with fail
  refine (awake7 _).mono ?_
  rintro e w0 ⟨rfl, hb0⟩
  have HB0 := Lib.hid hb0
  clear hb0
  have CPN := pool_new 256 (by omega) w0
  push_cast at CPN
  go_wp2_with fail
  refine CPN.mono ?_
  rintro e w1 ⟨rfl, hp1, hb1⟩
  clear CPN
  obtain ⟨PL, hPL⟩ : ∃ PL, w0.heap.size = PL := ⟨_, rfl⟩
  rw [hPL] at hp1 ⊢
  have HP1 := Lib.hid hp1
  have HB1 := Lib.hid (bel_trans HB0.out hb1)
  have HPG : Hid (w.heap.size ≤ PL) := Lib.hid (by rw [← hPL]; exact HB0.out.size)
  clear hp1 hb1 hPL
  go_wp2_with fail
  refine (new_s (w := w) PL HB1.out.size (Blk.lt HP1.out)).mono ?_
  rintro e w2 ⟨H, rfl, hf2, hb2⟩
  obtain ⟨F2, hF2⟩ : ∃ F2, New (fun _ => False) w1 w2 = F2 := ⟨_, rfl⟩
  rw [hF2] at hf2
  have A2 : Hid (AW w w2 F2 H PL [] 256) := Lib.hid ⟨hf2, Blk.below HP1.out hb2 (Blk.lt HP1.out), bel_trans HB1.out hb2, HPG.out⟩
  clear hf2 hb2 hF2 HP1 HB1 HB0 HPG
  go_wp2_with fail
  refine (wide_any w2).mono ?_
  rintro e w3 ⟨Ad, cd, rfl, hod, hb3⟩
  have HOD := Lib.hid hod
  have A3 := Lib.hid (A2.out.below hb3)
  have HFR3 : Hid (∀ g, (Value.slice Ad 200 cd).ownBlock = some g → ¬ F2 g ∧ g ≠ PL) := Lib.hid (fun g hg => by
    have h1 := (hod.lt g hg).1
    exact ⟨fun qq => by have := A2.out.hf.lt g qq; omega, by have := Blk.lt A2.out.pool; omega⟩)
  have HBS := Lib.hid A2.out.bel.size
  obtain ⟨gd, rfl, hcd⟩ : ∃ gd, Ad = some ⟨gd, 0, none⟩ ∧ 200 ≤ cd := by
    rcases hod.2 with ⟨_, h2⟩ | ⟨g, cap, cur, hv, _, _, hn, _⟩
    · omega
    · injection hv with h1 h2 h3
      subst h1 h3
      exact ⟨g, rfl, hn⟩
  obtain ⟨Tt, hTt⟩ : ∃ Tt, w3.heap.size = Tt := ⟨_, rfl⟩
  obtain ⟨w4, hw4⟩ : ∃ w4, w3.alloc (.cells #[.int .u64 1, .int .u64 1, .int .u64 0, .int .i64 (-1), .int .i64 (-1), .slice (some ⟨gd, 0, none⟩) 200 cd] 33) = w4 := ⟨_, rfl⟩
  have hbc : Below w3.heap.size w3 w4 := by rw [← hw4]; exact bel_alloc _ _
  have A4 := Lib.hid (A3.out.below hbc)
  have T4 : Hid (Blk w4 Tt 33 #[.int .u64 1, .int .u64 1, .int .u64 0, .int .i64 (-1), .int .i64 (-1), .slice (some ⟨gd, 0, none⟩) 200 cd]) := Lib.hid (by rw [← hw4, ← hTt]; exact Blk.new w3 _ _)
  have D4 : Hid (OwnB w4 w.heap.size (.slice (some ⟨gd, 0, none⟩) 200 cd) 200 (u8s dW)) := Lib.hid (own_mono (own_keep HOD.out fun k hk => hbc.block k (HOD.out.lt k hk).2) HBS.out)
  have TF4 : Hid (¬ F2 Tt ∧ Tt ≠ PL) := Lib.hid ⟨fun qq => by have := A3.out.hf.lt Tt qq; omega, by have := Blk.lt A3.out.pool; omega⟩
  have HW4 := Lib.hid (And.intro hw4 hTt)
  clear hod hb3 hbc hw4 hTt A2 A3 HOD HBS
  go_upto_region 6 with fail
  rw [HW4.out.1, HW4.out.2]
  have x5 := T4.out.cell 5
  have f5 := T4.out.frozen 5
  have hcdI : (200 : Int) ≤ cd := by omega
  have hmc : (m : Int) ≤ cd := by omega
  have hc0 : ¬ cd = 0 := by omega
  have hm0 : (0 : Int) ≤ m := by omega
  go_upto_region 9 with fail
  clear x5 f5
  obtain ⟨w5, hw5⟩ : ∃ w5, w4.setCell ⟨Tt, 5, none⟩ (.slice (some ⟨gd, 0, none⟩) m cd) = w5 := ⟨_, rfl⟩
  have ho5 : Only Tt w4 w5 := by rw [← hw5]; exact (Only.refl Tt w4).set_ _ _
  have T5 : Blk w5 Tt 33 #[.int .u64 1, .int .u64 1, .int .u64 0, .int .i64 (-1), .int .i64 (-1), .slice (some ⟨gd, 0, none⟩) m cd] := by rw [← hw5]; exact Blk.set_ T4.out 5 _
  have hTw : w.heap.size ≤ Tt := by
    rw [← HW4.out.2]
    have h1 := D4.out.lt gd rfl
    have h2 := (Blk.lt T4.out)
    have h3 := A4.out.bel.size
    have h4 : w4.heap.size = w3.heap.size + 1 := by rw [← HW4.out.1, size_alloc]
    have h5 : gd ≠ Tt := by
      intro e
      exact own_blk_ne D4.out T4.out (by decide) (by rw [← e]; rfl)
    have h6 := HW4.out.2
    omega
  have S5 : Hid (SM w w5 F2 H PL [] 256 none 0 [] Tt (some ⟨gd, 0, none⟩) cd m) := Lib.hid
    ⟨⟨A4.out.hf.keep (fun g hg => ho5.block g (A4.out.hf.lt g hg) (fun e => TF4.out.1 (e ▸ hg))) ho5.size, ho5.blk A4.out.pool TF4.out.2.symm, A4.out.bel.trans (ho5.below A4.out.bel.size hTw), A4.out.pge⟩,
      ⟨World.ownsRow_nil _ _ _ _⟩, fun g hg => by simp [Value.ownBlock] at hg, T5, TF4.out, own_keep D4.out fun g hg => ho5.block g (D4.out.lt g hg).2 (fun e => own_blk_ne D4.out T4.out (by decide) (by rw [hg, e])), HFR3.out⟩
  rw [hw5]
  clear hw5 ho5 T5 hTw A4 T4 D4 TF4 HW4 HFR3
  obtain ⟨Ad, hAd⟩ : ∃ Ad : Option Addr, (some ⟨gd, 0, none⟩ : Option Addr) = Ad := ⟨_, rfl⟩
  rw [hAd] at S5
  clear hm hq hz0 hz1 hy0 hy1 hc0 hmc hcdI hcd
  rw [hAd]
  clear hAd
  go_wp2_with fail
  go_loopw [12, 42] (fun lv iv wl => ∃ (k : Nat) (F : Nat → Prop) (l : List PgE) (kk : Nat) (A : Option Addr) (c : Nat) (pl : List (Int × Int)), k ≤ q + 1 ∧ iv = .int .i64 k ∧ lv = .slice A k c ∧ pl.length = k ∧ SM w wl F H PL l kk A c pl Tt Ad cd m ∧ l.length ≤ k ∧ l.length + kk = 256 ∧ useds l = k ∧ Pls l m pl) (fun _ iv _ => q + 1 - (intOf iv).toNat)
  case atStart => exact ⟨0, _, _, _, _, _, _, by omega, rfl, rfl, rfl, S5.out, by simp, rfl, rfl, Pls.nil _ _⟩
  case round =>
    obtain ⟨k, F, l, kk, A, c, pl, hk, rfl, rfl, hpk, hsm, hlk, hsum, hus, hpl⟩ := hrel
    have HSM := Lib.hid hsm
    have HPK := Lib.hid hpk
    have HSU := Lib.hid (And.intro hlk (And.intro hsum hus))
    have HPL := Lib.hid hpl
    clear hsm hpk hlk hsum hus hpl S5
    by_cases hlt : k < q + 1
    · have hlt' : (k : Int) < 1 + (q : Int) := by omega
      have t0 := HSM.out.tb.cell 0
      have t1 := HSM.out.tb.cell 1
      have t2 := HSM.out.tb.cell 2
      have t3 := HSM.out.tb.cell 3
      have t4 := HSM.out.tb.cell 4
      have t5 := HSM.out.tb.cell 5
      go_wp2_with fail
      clear t0 t1 t2 t3 t4 t5
      refine (ins_s HSM.out.aw.hf HSM.out.aw.pool HSM.out.aw.bel.size (by have := HSU.out; omega) 1 1 0 (-1) (-1) (dW.take m) (dm_len HM.out) (HSM.out.data HM.out)).mono ?_
      rintro e w6 ⟨pg, sl, er, l', k', rfl, hi, hf, hp, ht⟩
      have hiln := ins_len hi
      obtain ⟨rfl, hnone, hcont, hus', _, hlen⟩ := hi.cont (tu0 HM.out) (by have := HSU.out; omega)
      have HQ := Lib.hid (And.intro hnone (And.intro hcont (And.intro hus' (And.intro hlen hiln))))
      have S6 := Lib.hid (HSM.out.turn hf hp ht)
      obtain ⟨F6, hF6⟩ : ∃ F6, New F wr w6 = F6 := ⟨_, rfl⟩
      rw [hF6] at S6
      clear hi hf hp ht hnone hcont hus' hlen hiln hF6
      obtain ⟨T6, hT6⟩ : ∃ T6, w6.heap.size = T6 := ⟨_, rfl⟩
      obtain ⟨w7, hw7⟩ : ∃ w7, w6.alloc (.cells #[.int .i64 pg, .int .i64 sl] 30) = w7 := ⟨_, rfl⟩
      have S7 : Hid (SM w w7 F6 H PL l' k' A c pl Tt Ad cd m) := Lib.hid (by rw [← hw7]; exact S6.out.below (bel_alloc _ _))
      have X7 : Hid (Blk w7 T6 30 #[.int .i64 pg, .int .i64 sl]) := Lib.hid (by rw [← hw7, ← hT6]; exact Blk.new w6 _ _)
      have HW7 := Lib.hid (And.intro hw7 hT6)
      clear hw7 hT6 S6
      go_upto_region 12 with fail
      rw [HW7.out.1, HW7.out.2]
      have y0 := X7.out.cell 0
      have y1 := X7.out.cell 1
      have O7 : Hid (w7.ownsRow w.heap.size 30 2 (.slice A k c) k (tids pl)) := Lib.hid (by have := S7.out.own.own; rwa [HPK.out] at this)
      have hB7 := S7.out.aw.bel.size
      go_upto_region 15 with (at_builtin; go_loud (refine wpl_app_t rfl (.tmp 52) (.tmp 54) rfl w.heap.size _ k (tids pl) rfl (World.ownsRow.alloc O7.out _) _ _ 1 (tids [(pg, sl)]) rfl (lies_at _ #[.int .i64 pg, .int .i64 sl] _ 2 1 w7.heap.size rfl rfl) (fun u hu => by simp [tids] at hu; rcases hu with rfl | rfl <;> rfl) (by omega) (by rw [size_alloc]; omega) ?_; intro v1 w8 hown1 hg1; obtain ⟨A1, c1, hv1, _⟩ := Sl.of_own hown1; subst hv1))
      have S8 := Lib.hid ((S7.out.below (bel_alloc w7 (.cells #[.int .i64 pg, .int .i64 sl] 30))).app (x := (pg, sl)) (A' := A1) (c' := c1) (by rw [HPK.out]; exact hown1) (by rw [HPK.out]; exact hg1))
      clear hown1 hg1 y0 y1 hB7
      go_wp2_with fail
      go_roundw
      case rel => exact ⟨k + 1, F6, l', k', A1, c1, _, by omega, by go_num, by first | rfl | (congr 1), by rw [List.length_append, HPK.out]; rfl, S8.out, by have := HSU.out; have := HQ.out; omega, by have := HSU.out; have := HQ.out; omega, by have := HSU.out; have := HQ.out; omega, HPL.out.app HQ.out.1 HQ.out.2.1⟩
      case measure => simp [intOf]; omega
    · have HKQ : Hid (k = q + 1) := Lib.hid (by omega)
      have hnl : ¬ (k : Int) < 1 + (q : Int) := by omega
      have hk0 : 0 < k := by omega
      have CPG := Lib.hid (pages_s HSM.out.aw.hf)
      go_wp2_with fail
      refine CPG.out.mono ?_
      rintro e w6 ⟨rfl, rfl⟩
      clear CPG hlt hnl
      obtain ⟨P0, hP0⟩ : ∃ P0, l.length = P0 := ⟨_, rfl⟩
      have HP0 := Lib.hid hP0
      rw [hP0]
      clear hP0
      go_wp2_with fail
      go_loopw [61] (fun iv wl => ∃ (j : Nat) (F : Nat → Prop) (l : List PgE) (pl : List (Int × Int)), j ≤ n ∧ iv = .int .i64 j ∧ pl.length = k ∧ SM w wl F H PL l kk A c pl Tt Ad cd m ∧ l.length = P0 ∧ useds l = k ∧ Pls l m pl) (fun iv _ => n - (intOf iv).toNat)
      case atStart => exact ⟨0, F, l, pl, by omega, rfl, HPK.out, HSM.out, HP0.out, HSU.out.2.2, HPL.out⟩
      case round =>
        obtain ⟨j, F', l1, pl1, hj, rfl, hpk1, hsm1, hln, hus1, hpl1⟩ := hrel
        have HT := Lib.hid hsm1
        have HPK1 := Lib.hid hpk1
        have HLN := Lib.hid hln
        have HU1 := Lib.hid hus1
        have HPL1 := Lib.hid hpl1
        clear hpk1 hsm1 hln hus1 hpl1 HSM HPL
        by_cases hjn : j < n
        · have hjn' : (j : Int) < n := by omega
          obtain ⟨y, hy⟩ : ∃ y, xs[j]? = some y := ⟨_, List.getElem?_eq_getElem (by rw [HL.out]; exact hjn)⟩
          obtain ⟨ad, rfl, hAt⟩ := HS.out.at_ (by omega)
          have z0 : wr.cell? (ad.add j) = some (.int .u8 (y.toNat : Int)) := u8s_at (hAt.below HT.out.aw.bel) hy
          have hyb : y.toNat < 256 := y.toNat_lt
          obtain ⟨ny, hny⟩ : ∃ ny, y.toNat = ny := ⟨_, rfl⟩
          rw [hny] at z0 hyb
          have hyI : (ny : Int) < 256 := by omega
          clear hAt hy hny
          by_cases h40 : j < 40
          · have h40' : ¬ (40 : Int) ≤ (j : Int) := by omega
            obtain ⟨kx, hkx⟩ : ∃ kx, ny % (q + 1) = kx := ⟨_, rfl⟩
            have hkl : kx < k := by rw [← hkx, HKQ.out]; exact Nat.mod_lt _ (by omega)
            have e1 : Int.tmod (ny : Int) (1 + (q : Int)) = kx := by rw [show (1 : Int) + q = ((q + 1 : Nat) : Int) by push_cast; omega, ← hkx]; exact (Int.ofNat_tmod ny (q + 1)).symm
            have e2 : (ny : Int) % (1 + (q : Int)) = kx := by rw [show (1 : Int) + q = ((q + 1 : Nat) : Int) by push_cast; omega, ← hkx]; first | exact (Int.natCast_emod ny (q + 1)).symm | rfl | (push_cast; rfl)
            have e3 : ¬ (1 : Int) + (q : Int) = 0 := by omega
            have e4 : ((1 : Int) + (q : Int) == 0) = false := beq_eq_false_iff_ne.2 e3
            obtain ⟨x, hx⟩ : ∃ x, pl1[kx]? = some x := ⟨_, List.getElem?_eq_getElem (by rw [HPK1.out]; exact hkl)⟩
            obtain ⟨g, cur, hgA, hgB, hgw, _, _, y0, y1⟩ := HT.out.own.form hx
            have hgF := HT.out.ofr g (by rw [hgA]; rfl)
            have HGW := Lib.hid (And.intro hgw hgF)
            have HGB := Lib.hid hgB
            have HGA := Lib.hid hgA
            have HX := Lib.hid hx
            obtain ⟨i, px, hpg, hix, hav⟩ := cont_some (HPL1.out.con kx x hx)
            obtain ⟨L', hfr⟩ := free_of_atv hav
            have HRM := Lib.hid (by
              obtain ⟨_, _, _, _, _, ha⟩ := HT.out.aw.hf.ha
              exact room_free (ha.pg i px hix) hfr hav)
            have HCF := Lib.hid (cont_free hix hfr px.st)
            have HIX := Lib.hid hix
            have CF := Lib.hid (free_s HT.out.aw.hf (Blk.lt HT.out.aw.pool) HT.out.aw.bel.size (by have := HLN.out; have := HSU.out; have := HP0.out; omega) hix x.2 0 L' hfr)
            rw [← hpg] at CF
            have HPG2 := Lib.hid hpg
            have hklI : (kx : Int) < k := by omega
            have hkx0 : (0 : Int) ≤ kx := by omega
            subst hgA
            clear hkx hx hgB hgw hgF hpg hix hav hfr
            go_wp2_with fail
            refine CF.out.mono ?_
            rintro e w7 ⟨rfl, hf7, ht7⟩
            clear CF z0 y0 y1
            have hp7 : Pool w7 PL kk := (ht7.block PL (Blk.lt HT.out.aw.pool) HT.out.aw.hf.pl).trans HT.out.aw.pool
            have ht7' : Turn (fun g => F' g ∨ g = PL) wr w7 := ⟨ht7.os, ht7.tape, ht7.output, ht7.size, fun q hq hn => ht7.block q hq (fun hg => hn (.inl hg))⟩
            have S7 := Lib.hid (HT.out.turn hf7 hp7 ht7')
            have G7 : Hid (Blk w7 g 30 cur) := Lib.hid ((ht7'.block g (Blk.lt HGB.out) (fun q => q.elim HGW.out.2.1 HGW.out.2.2)).trans HGB.out)
            obtain ⟨F7, hF7⟩ : ∃ F7, New F' wr w7 = F7 := ⟨_, rfl⟩
            rw [hF7] at S7
            obtain ⟨l7, hl7⟩ : ∃ l7, l1.set i ⟨px.b, L', px.st⟩ = l7 := ⟨_, rfl⟩
            rw [hl7] at S7 HCF
            have HL7 : Hid (l7.length = P0 ∧ l7[i]? = some ⟨px.b, L', px.st⟩) := Lib.hid (by
              have hl := (List.getElem?_eq_some_iff.1 HIX.out).1
              rw [← hl7]
              exact ⟨by rw [List.length_set]; exact HLN.out, List.getElem?_set_self hl⟩)
            clear hf7 hp7 ht7 ht7' hF7 hl7
            have hfnd : (findR (rooms l7) (dW.take m).length).2 = true := find_has HL7.out.2 (by have := HRM.out; show (((dW.take m).length : Nat) : Int) ≤ roomL L'; exact this)
            have HFN := Lib.hid hfnd
            clear hfnd
            have t0 := S7.out.tb.cell 0
            have t1 := S7.out.tb.cell 1
            have t2 := S7.out.tb.cell 2
            have t3 := S7.out.tb.cell 3
            have t4 := S7.out.tb.cell 4
            have t5 := S7.out.tb.cell 5
            go_wp2_with fail
            clear t0 t1 t2 t3 t4 t5
            refine (ins_s S7.out.aw.hf S7.out.aw.pool S7.out.aw.bel.size (by have := HL7.out.1; have := HSU.out; have := HP0.out; omega) 1 1 0 (-1) (-1) (dW.take m) (dm_len HM.out) (S7.out.data HM.out)).mono ?_
            rintro e w8 ⟨pg, sl, er, l8, k8, rfl, hi, hf, hp, ht⟩
            have hiln := ins_len hi
            obtain ⟨rfl, hnone, hcont, hus', hlf, _⟩ := hi.cont (tu0 HM.out) (by have := HSU.out; have := HP0.out; omega)
            have hl8 : l8.length = P0 := (hlf HFN.out).trans HL7.out.1
            obtain rfl : k8 = kk := by have := HL7.out.1; omega
            have HQ := Lib.hid (And.intro hnone (And.intro hcont (And.intro hus' hl8)))
            have S8 := Lib.hid (S7.out.turn hf hp ht)
            have G8 : Hid (Blk w8 g 30 cur ∧ ¬ F7 g) := Lib.hid (by
              have h1 := S7.out.ofr g rfl
              exact ⟨(ht.block g (Blk.lt G7.out) (fun q => q.elim h1.1 h1.2)).trans G7.out, h1.1⟩)
            obtain ⟨F8, hF8⟩ : ∃ F8, New F7 w7 w8 = F8 := ⟨_, rfl⟩
            rw [hF8] at S8
            clear hi hf hp ht hnone hcont hus' hlf hl8 hiln hF8 S7 G7
            obtain ⟨T9, hT9⟩ : ∃ T9, w8.heap.size = T9 := ⟨_, rfl⟩
            obtain ⟨w9, hw9⟩ : ∃ w9, w8.alloc (.cells #[.int .i64 pg, .int .i64 sl] 30) = w9 := ⟨_, rfl⟩
            have S9 : Hid (SM w w9 F8 H PL l8 k8 (some ⟨g, 0, none⟩) c pl1 Tt Ad cd m) := Lib.hid (by rw [← hw9]; exact S8.out.below (bel_alloc _ _))
            have X9 : Hid (Blk w9 T9 30 #[.int .i64 pg, .int .i64 sl]) := Lib.hid (by rw [← hw9, ← hT9]; exact Blk.new w8 _ _)
            have G9 : Hid (Blk w9 g 30 cur) := Lib.hid (by rw [← hw9]; exact Blk.alloc G8.out.1 _)
            have HW9 := Lib.hid (And.intro hw9 hT9)
            have HGT : Hid (g ≠ T9) := Lib.hid (by have := Blk.lt G8.out.1; omega)
            clear hw9 hT9 S8 G8
            go_upto_region 25 with fail
            rw [HW9.out.1, HW9.out.2]
            have CP2 := Lib.hid (pages_s S9.out.aw.hf)
            rw [HQ.out.2.2.2] at CP2
            have CU2 := Lib.hid (used_s S9.out.aw.hf (by have := HQ.out.2.2.2; have := HSU.out; have := HP0.out; omega))
            have hus8 : useds l8 = k := by have := HQ.out.2.2.1; have := HCF.out.2; have := HU1.out; omega
            have HU8 := Lib.hid hus8
            rw [hus8, HKQ.out] at CU2
            push_cast at CU2
            clear hus8
            have ecm : (q : Int) + 1 = 1 + (q : Int) := by omega
            rw [ecm] at CU2
            go_wp2_with fail
            refine CP2.out.mono ?_
            rintro e wa ⟨rfl, rfl⟩
            go_wp2_with fail
            refine CU2.out.mono ?_
            rintro e wa ⟨rfl, m9, rfl⟩
            clear CP2 CU2 ecm
            have G10 : Hid (Blk (w9.drewN m9) g 30 cur) := Lib.hid G9.out
            have X10 : Hid (Blk (w9.drewN m9) T9 30 #[.int .i64 pg, .int .i64 sl]) := Lib.hid X9.out
            have S10 := Lib.hid (S9.out.below (bel_drewN' w9 m9))
            have y0 := X10.out.cell 0
            have y1 := X10.out.cell 1
            have f0 := G10.out.frozen (kx * 2)
            have f1 := G10.out.frozen (kx * 2 + 1)
            obtain ⟨_, _, hgA', _, _, _, _, c0', c1'⟩ := S10.out.own.form HX.out
            injection hgA' with hgA'
            injection hgA' with hgA'
            subst hgA'
            go_wp2_with fail
            have hset := S10.out.own.set (k := kx) (g := g) (by rw [HPK1.out]; exact hkl) rfl (pg, sl)
            have hog : Only g (w9.drewN m9) (((w9.drewN m9).setCell ⟨g, kx * 2, none⟩ (.int .i64 pg)).setCell ⟨g, kx * 2 + 1, none⟩ (.int .i64 sl)) := ((Only.refl g _).set_ _ _).set_ _ _
            have S11 := Lib.hid (S10.out.other (v := .slice none 0 0) hog.size (S10.out.aw.bel.trans (hog.below S10.out.aw.bel.size HGW.out.1)) (fun k h1 h2 => hog.block k h1 (fun e => h2 (by rw [e]; rfl))) hset (fun g' hg' => by rw [List.length_set] at hg'; exact S10.out.ofr g' hg'))
            clear hset hog y0 y1 f0 f1 c0' c1'
            go_roundw
            case rel =>
              refine ⟨j + 1, F8, l8, _, by omega, by go_num, by rw [List.length_set]; exact HPK1.out, S11.out, HQ.out.2.2.2, HU8.out, HPL1.out.swap HX.out (fun a b => ?_) HQ.out.1 HQ.out.2.1⟩
              rw [HPG2.out]
              exact HCF.out.1 a b
            case measure => simp [intOf]; omega
          · have h40' : (40 : Int) ≤ (j : Int) := by omega
            clear h40
            have HX := Lib.hid HT.out
            have CD := Lib.hid (drop_s HX.out.aw.hf HX.out.aw.pool HX.out.aw.bel.size (by have := HSU.out; have := HLN.out; have := HP0.out; omega))
            rw [HLN.out] at CD
            go_wp2_with fail
            refine CD.out.mono ?_
            rintro e wa ⟨rfl, hfa, hpa, hta⟩
            have HA := Lib.hid (HX.out.aw.turn hfa hpa hta)
            have hk256 : kk + P0 = 256 := by have := HSU.out; have := HP0.out; omega
            rw [hk256] at HA
            have CL := Lib.hid (left_any HA.out.pool)
            push_cast at CL
            clear hfa hpa hta CD hk256
            go_wp2_with fail
            refine CL.out.mono ?_
            rintro e wb ⟨rfl, rfl⟩
            clear CL
            have CU := Lib.hid (used_s HA.out.hf (by simp))
            go_wp2_with fail
            refine CU.out.mono ?_
            rintro e wb ⟨rfl, m9, rfl⟩
            go_wp2_with fail
            go_ret
            exact ⟨by first | rfl | simp [useds], by have h := HA.out.bel; exact ⟨h.os, h.tape, h.output, h.size, h.block⟩⟩
        · obtain rfl : j = n := by omega
          have HX := Lib.hid HT.out
          have CD := Lib.hid (drop_s HX.out.aw.hf HX.out.aw.pool HX.out.aw.bel.size (by have := HSU.out; have := HLN.out; have := HP0.out; omega))
          rw [HLN.out] at CD
          go_wp2_with fail
          refine CD.out.mono ?_
          rintro e wa ⟨rfl, hfa, hpa, hta⟩
          have HA := Lib.hid (HX.out.aw.turn hfa hpa hta)
          have hk256 : kk + P0 = 256 := by have := HSU.out; have := HP0.out; omega
          rw [hk256] at HA
          have CL := Lib.hid (left_any HA.out.pool)
          push_cast at CL
          clear hfa hpa hta CD hk256
          go_wp2_with fail
          refine CL.out.mono ?_
          rintro e wb ⟨rfl, rfl⟩
          clear CL
          have CU := Lib.hid (used_s HA.out.hf (by simp))
          go_wp2_with fail
          refine CU.out.mono ?_
          rintro e wb ⟨rfl, m9, rfl⟩
          go_wp2_with fail
          go_ret
          exact ⟨by first | rfl | simp [useds], by have h := HA.out.bel; exact ⟨h.os, h.tape, h.output, h.size, h.block⟩⟩
end Go.Proofs.Ythghnhcopmmmpaa.Hea
/- heap.Get. -/
namespace Go.Proofs.Ythghnhcopmmmpaa.Hea
open Go.RowKit Go.Proofs.Ythghnhcopmmmpaa.Nums Go.Proofs.Ythghnhcopmmmpaa.Mem Go.Proofs.Ythghnhcopmmmpaa.Room
set_option linter.unusedVariables false
set_option linter.unusedSimpArgs false
set_option maxRecDepth 100000
set_option maxHeartbeats 4000000
theorem get7_ret {w : World} {T : Nat} {v0 v1 v2 v3 v4 v5 q : Value} {tmps : Array Value} (h : Blk w T 33 #[v0, v1, v2, v3, v4, v5]) (h4 : tmps.getD 4 undef = .pointer (some ⟨T, 0, none⟩)) (h5 : tmps.getD 5 undef = q) :
    (results Try.f60 tmps).run Try.prog w = .ok (.tuple #[.agg #[v0, v1, v2, v3, v4, v5], q]) w := by
  have x0 := h.cell 0
  have x1 := h.cell 1
  have x2 := h.cell 2
  have x3 := h.cell 3
  have x4 := h.cell 4
  have x5 := h.cell 5
  have g4 : tmps[4]?.getD undef = .pointer (some ⟨T, 0, none⟩) := by simpa using h4
  have g5 : tmps[5]?.getD undef = q := by simpa using h5
  simp [results, Try.results60, go_sem, g4, g5, x0, x1, x2, x3, x4, x5]
theorem six_far {w : World} {T T1 : Nat} {t : TypeId} {cs : Array Value} {v0 v1 v2 v3 v4 v5 : Value} (h : Blk w T t cs) (hn : T ≠ T1) :
    Blk ((((((w.setCell ⟨T1, 0, none⟩ v0).setCell ⟨T1, 1, none⟩ v1).setCell ⟨T1, 2, none⟩ v2).setCell ⟨T1, 3, none⟩ v3).setCell ⟨T1, 4, none⟩ v4).setCell ⟨T1, 5, none⟩ v5) T t cs :=
  Blk.far (Blk.far (Blk.far (Blk.far (Blk.far (Blk.far h (p := ⟨T1, 0, none⟩) hn v0) (p := ⟨T1, 1, none⟩) hn v1) (p := ⟨T1, 2, none⟩) hn v2) (p := ⟨T1, 3, none⟩) hn v3) (p := ⟨T1, 4, none⟩) hn v4) (p := ⟨T1, 5, none⟩) hn v5
theorem blk_two {w : World} {T : Nat} {t : TypeId} {a b : Value} (h : Blk w T t #[a, b]) : w.cell? ⟨T, 0, none⟩ = some a ∧ w.cell? ⟨T, 1, none⟩ = some b := ⟨h.cell 0, h.cell 1⟩
theorem six_two {w : World} {T T1 : Nat} {t : TypeId} {a b : Value} {v0 v1 v2 v3 v4 v5 : Value} (h : Blk w T t #[a, b]) (hn : T ≠ T1) :
    ((((((w.setCell ⟨T1, 0, none⟩ v0).setCell ⟨T1, 1, none⟩ v1).setCell ⟨T1, 2, none⟩ v2).setCell ⟨T1, 3, none⟩ v3).setCell ⟨T1, 4, none⟩ v4).setCell ⟨T1, 5, none⟩ v5).cell? ⟨T, 0, none⟩ = some a ∧ ((((((w.setCell ⟨T1, 0, none⟩ v0).setCell ⟨T1, 1, none⟩ v1).setCell ⟨T1, 2, none⟩ v2).setCell ⟨T1, 3, none⟩ v3).setCell ⟨T1, 4, none⟩ v4).setCell ⟨T1, 5, none⟩ v5).cell? ⟨T, 1, none⟩ = some b := blk_two (six_far h hn)
/-- what is told of a place -/
def GetR (l : List PgE) (pg sl : Int) (r : Nat) (ok : Bool) : Prop := (∃ v, cont l pg sl = some v ∧ ok = true ∧ r = v.r) ∨ (cont l pg sl = none ∧ ok = false)
section
variable {w : World} {F : Nat → Prop} {H PL : Nat} {l : List PgE} {Rs : List Int} {A : Option Addr} {c M : Nat} {Ar : Option Addr} {cr : Nat}
theorem page_get (h : HA w F H PL l Rs A c M Ar cr) (pg sl : Int) :
    Calls Try.prog 26 #[pgV l pg, .int .i64 sl] w fun e w' => ∃ (r a b : Nat) (p s : Int) (Au : Option Addr) (nu cu : Nat) (ok : Bool), e = .returned (.tuple #[.agg #[.int .u64 r, .int .u64 a, .int .u64 b, .int .i64 p, .int .i64 s, .slice Au nu cu], .bool ok]) ∧ GetR l pg sl r ok ∧ Below w.heap.size w w' := by
  by_cases h0 : pg < 0 ∨ (l.length : Int) ≤ pg
  · have hv : pgV l pg = .pointer none := if_pos h0
    have hc : cont l pg sl = none := by
      unfold cont
      split
      · rfl
      · rw [List.getElem?_eq_none (by omega)]
    rw [hv]
    refine (get_nil sl w).mono ?_
    rintro e w' ⟨rfl, hb⟩
    exact ⟨0, 0, 0, 0, 0, none, 0, 0, false, rfl, .inr ⟨hc, rfl⟩, hb⟩
  · obtain ⟨i, rfl⟩ : ∃ i : Nat, pg = i := ⟨pg.toNat, by omega⟩
    obtain ⟨x, hx⟩ : ∃ x, l[i]? = some x := ⟨_, List.getElem?_eq_getElem (by omega)⟩
    have hv : pgV l i = .pointer (some ⟨x.b, 0, none⟩) := by unfold pgV; rw [if_neg h0, Int.toNat_natCast, hx]
    have hc : cont l i sl = atv x.L sl := by rw [cont_nat, hx]
    rw [hv]
    cases ha : atL x.L sl with
    | none =>
      refine (get_has_none x.b x.L x.st sl w (h.pg i x hx) ha).mono ?_
      rintro e w' ⟨rfl, hb⟩
      exact ⟨0, 0, 0, 0, 0, none, 0, 0, false, rfl, .inr ⟨by rw [hc]; unfold atv; rw [ha]; rfl, rfl⟩, hb⟩
    | some y =>
      obtain ⟨v, f⟩ := y
      refine (get_has_some x.b x.L x.st sl v f w (h.pg i x hx) ha).mono ?_
      rintro e w' ⟨u, rfl, ho, hb⟩
      obtain ⟨Au, cu, rfl, _⟩ := Sl.of_own ho
      exact ⟨v.r, v.a, v.b, _, _, Au, _, cu, true, rfl, .inl ⟨v, by rw [hc]; unfold atv; rw [ha]; rfl, rfl, rfl⟩, hb⟩
theorem get_h (h : HA w F H PL l Rs A c M Ar cr) (pg sl : Int) :
    Calls Try.prog 60 #[.pointer (some ⟨H, 0, none⟩), .agg #[.int .i64 pg, .int .i64 sl]] w fun e w' => ∃ (r a b : Nat) (p s : Int) (Au : Option Addr) (nu cu : Nat) (ok : Bool), e = .returned (.tuple #[.agg #[.int .u64 r, .int .u64 a, .int .u64 b, .int .i64 p, .int .i64 s, .slice Au nu cu], .bool ok]) ∧ GetR l pg sl r ok ∧ Below w.heap.size w w' := by
  obtain ⟨T0, hT0⟩ : ∃ T0, w.heap.size = T0 := ⟨_, rfl⟩
  obtain ⟨T1, hT1⟩ : ∃ T1, T0 + 1 = T1 := ⟨_, rfl⟩
  obtain ⟨W1, hW1⟩ : ∃ W1, w.alloc (.cells #[.int .i64 pg, .int .i64 sl] 30) = W1 := ⟨_, rfl⟩
  obtain ⟨W0, hW0⟩ : ∃ W0, W1.alloc (.cells #[.int .u64 0, .int .u64 0, .int .u64 0, .int .i64 0, .int .i64 0, .slice none 0 0] 33) = W0 := ⟨_, rfl⟩
  have hs1 : W1.heap.size = T1 := by rw [← hW1, size_alloc, hT0, hT1]
  have hb0 : Below w.heap.size w W0 := by rw [← hW0]; exact bel_trans (by rw [← hW1]; exact bel_alloc _ _) (bel_alloc _ _)
  have hbT : Blk W0 T0 30 #[.int .i64 pg, .int .i64 sl] := by rw [← hW0]; exact Blk.alloc (by rw [← hW1, ← hT0]; exact Blk.new w _ _) _
  have hbR : Blk W0 T1 33 #[.int .u64 0, .int .u64 0, .int .u64 0, .int .i64 0, .int .i64 0, .slice none 0 0] := by rw [← hW0, ← hs1]; exact Blk.new W1 _ _
  have HH := Lib.hid (h.below hb0)
  have HBT := Lib.hid hbT
  have HBR := Lib.hid hbR
  have HB0 := Lib.hid hb0
  have HWS := Lib.hid (And.intro hW1 (And.intro hW0 (And.intro hT0 hT1)))
  have CP := Lib.hid (page_h HH.out.drew pg)
  have CG := Lib.hid (page_get HH.out.drew pg sl)
  obtain ⟨V, hV⟩ : ∃ V, pgV l pg = V := ⟨_, rfl⟩
  rw [hV] at CP CG
  have x0 := hbT.cell 0
  have x1 := hbT.cell 1
  have HNE : Hid (T0 ≠ T1) := Lib.hid (by omega)
  clear h hbT hbR hb0 hs1 hW1 hW0 hT0 hT1 hV
  go_enter Try.func60, Try.ntmps60
  go_upto_region 1 with fail
  rw [HWS.out.1, HWS.out.2.1, HWS.out.2.2.1, HWS.out.2.2.2]
  go_region_held3 (fun w' => w'.cell? ⟨T0, 0, none⟩ = some (.int .i64 pg) ∧ w'.cell? ⟨T0, 1, none⟩ = some (.int .i64 sl)) (first | with_reducible exact blk_two HT9.out | with_reducible exact six_two HT9.out HNE.out | with_reducible exact ⟨x0, x1⟩ | go_keep)
    (first
      | (go_at_call 88; refine CP.out.mono ?_; rintro e w2 ⟨rfl, rfl⟩)
      | (go_at_call 26; refine CG.out.mono ?_; rintro e w9 ⟨r, a, b, p, s, Au, nu, cu, ok, rfl, hgr, hb9⟩; have HT9 := Lib.hid (Blk.below (show Blk W0.drew _ _ _ from HBT.out) hb9 (Blk.lt HBT.out)); have HR9 := Lib.hid (Blk.below (show Blk W0.drew _ _ _ from HBR.out) hb9 (Blk.lt HBR.out)); have q0 := HR9.out.cell 0; have q1 := HR9.out.cell 1; have q2 := HR9.out.cell 2; have q3 := HR9.out.cell 3; have q4 := HR9.out.cell 4; have q5 := HR9.out.cell 5; have p0 := HR9.out.frozen 0; have p1 := HR9.out.frozen 1; have p2 := HR9.out.frozen 2; have p3 := HR9.out.frozen 3; have p4 := HR9.out.frozen 4; have p5 := HR9.out.frozen 5))
  go_wp2_with fail
  have hs := Blk.set_ (Blk.set_ (Blk.set_ (Blk.set_ (Blk.set_ (Blk.set_ HR9.out 0 (.int .u64 r)) 1 (.int .u64 a)) 2 (.int .u64 b)) 3 (.int .i64 p)) 4 (.int .i64 s)) 5 (.slice Au nu cu)
  have ho : Only T1 w9 _ := ((((((Only.refl T1 w9).set_ 0 (.int .u64 r)).set_ 1 (.int .u64 a)).set_ 2 (.int .u64 b)).set_ 3 (.int .i64 p)).set_ 4 (.int .i64 s)).set_ 5 (.slice Au nu cu)
  refine bodyPost_ret (get7_ret hs rfl rfl) rfl ?_
  have hb1 : Below w.heap.size w W0.drew := ⟨HB0.out.os, HB0.out.tape, HB0.out.output, HB0.out.size, HB0.out.block⟩
  have hb2 := bel_trans hb1 hb9
  exact ⟨r, a, b, p, s, Au, nu, cu, ok, rfl, hgr, hb2.trans (ho.below hb2.size (by rw [HWS.out.2.2.1, ← HWS.out.2.2.2]; omega))⟩
end
theorem get_s {w wl : World} {F : Nat → Prop} {H PL : Nat} {l : List PgE} (h : HF w wl F H PL l) (pg sl : Int) :
    Calls Try.prog 60 #[.pointer (some ⟨H, 0, none⟩), .agg #[.int .i64 pg, .int .i64 sl]] wl fun e w' => ∃ (r a b : Nat) (p s : Int) (Au : Option Addr) (nu cu : Nat) (ok : Bool), e = .returned (.tuple #[.agg #[.int .u64 r, .int .u64 a, .int .u64 b, .int .i64 p, .int .i64 s, .slice Au nu cu], .bool ok]) ∧ GetR l pg sl r ok ∧ Below wl.heap.size wl w' := by
  obtain ⟨A, c, M, Ar, cr, ha⟩ := h.ha
  exact get_h ha pg sl
end Go.Proofs.Ythghnhcopmmmpaa.Hea
/- HeapFree: its walk. -/
namespace Go.Proofs.Ythghnhcopmmmpaa.Hea
open Go.RowKit Go.Proofs.Ythghnhcopmmmpaa.Nums Go.Proofs.Ythghnhcopmmmpaa.Mem Go.Proofs.Ythghnhcopmmmpaa.Room
set_option linter.unusedVariables false
set_option linter.unusedSimpArgs false
set_option maxRecDepth 100000
set_option maxHeartbeats 8000000
/-- one heap, its pool, the places that were told -/
structure SP (w wl : World) (F : Nat → Prop) (H PL : Nat) (l : List PgE) (kk : Nat) (A : Option Addr) (c : Nat) (pl : List (Int × Int)) : Prop where
  aw : AW w wl F H PL l kk
  own : Own2 wl w.heap.size A c pl
  ofr : ∀ g, (Value.slice A pl.length c).ownBlock = some g → ¬ F g ∧ g ≠ PL
section
variable {w wl w' : World} {F : Nat → Prop} {H PL kk kk' c : Nat} {l l' : List PgE} {A : Option Addr} {pl : List (Int × Int)}
theorem SP.below (h : SP w wl F H PL l kk A c pl) (hb : Below wl.heap.size wl w') : SP w w' F H PL l kk A c pl :=
  ⟨h.aw.below hb, h.own.keep fun g hg => hb.block g (h.own.own.lt g hg).2, h.ofr⟩
theorem SP.turn (h : SP w wl F H PL l kk A c pl) (hf : HF w w' (New F wl w') H PL l') (hp : Pool w' PL kk') (ht : Turn (fun g => F g ∨ g = PL) wl w') : SP w w' (New F wl w') H PL l' kk' A c pl :=
  ⟨h.aw.turn hf hp ht, h.own.keep fun g hg => ht.block g (h.own.own.lt g hg).2 (fun q => q.elim (h.ofr g hg).1 (h.ofr g hg).2), fun g hg => ⟨fun q => q.elim (h.ofr g hg).1 (fun q => by have := (h.own.own.lt g hg).2; omega), (h.ofr g hg).2⟩⟩
theorem SP.app (h : SP w wl F H PL l kk A c pl) {A' : Option Addr} {c' : Nat} {x : Int × Int} (hown : w'.ownsRow w.heap.size 30 2 (.slice A' (pl.length + 1) c') (pl.length + 1) (tids pl ++ tids [x])) (hk : Kin wl w' (.slice A pl.length c) (.slice A' (pl.length + 1) c')) : SP w w' F H PL l kk A' c' (pl ++ [x]) := by
  have hl : (pl ++ [x]).length = pl.length + 1 := by simp
  have hF : ∀ g, F g → w'.heap[g]? = wl.heap[g]? := fun g hg => hk.1.block g (h.aw.hf.lt g hg) (fun e => (h.ofr g e.symm).1 hg)
  refine ⟨⟨h.aw.hf.keep hF hk.1.size, (hk.1.block PL (Blk.lt h.aw.pool) (fun e => (h.ofr PL e.symm).2 rfl)).trans h.aw.pool, h.aw.bel.trans (hk.below h.aw.bel.size fun g hg => (h.own.own.lt g hg).1), h.aw.pge⟩, ⟨by rw [hl, tids_app]; exact hown⟩, fun g hg => ?_⟩
  rw [hl] at hg
  rcases hk.2 with e | ⟨g', e, hg'⟩
  · exact h.ofr g (by rw [← e]; exact hg)
  · rw [hg] at e
    injection e with e
    subst e
    exact ⟨fun q => by have := h.aw.hf.lt g q; omega, by have := Blk.lt h.aw.pool; omega⟩
end
/-- the places are apart, and at each lies the version of its number -/
structure PlF (l : List PgE) (pl : List (Int × Int)) : Prop where
  con : ∀ (i : Nat) (x : Int × Int), pl[i]? = some x → ∃ v, cont l x.1 x.2 = some v ∧ v.r = i
  dis : ∀ (i j : Nat) (x : Int × Int), pl[i]? = some x → pl[j]? = some x → i = j
theorem PlF.app {l l' : List PgE} {pl : List (Int × Int)} {pg sl : Int} {v : Ver} (h : PlF l pl) (h0 : cont l pg sl = none) (h1 : ∀ x y, cont l' x y = if x = pg ∧ y = sl then some v else cont l x y) (hv : v.r = pl.length) : PlF l' (pl ++ [(pg, sl)]) := by
  have get : ∀ (i : Nat) (x : Int × Int), (pl ++ [(pg, sl)])[i]? = some x → (i < pl.length ∧ pl[i]? = some x) ∨ (i = pl.length ∧ x = (pg, sl)) := by
    intro i x hi
    by_cases e : i < pl.length
    · rw [List.getElem?_append_left e] at hi; exact .inl ⟨e, hi⟩
    · rw [List.getElem?_append_right (by omega)] at hi
      cases hq : i - pl.length with
      | zero => rw [hq] at hi; simp at hi; exact .inr ⟨by omega, hi.symm⟩
      | succ k => rw [hq] at hi; simp at hi
  have ne : ∀ (i : Nat), pl[i]? ≠ some (pg, sl) := fun i hi => by
    obtain ⟨v, h2, _⟩ := h.con i _ hi
    rw [h0] at h2
    cases h2
  refine ⟨fun i x hi => ?_, fun i j x hi hj => ?_⟩
  · rw [h1]
    rcases get i x hi with ⟨_, hi⟩ | ⟨h3, rfl⟩
    · rw [if_neg (fun e => ne i (by rw [hi]; exact congrArg some (Prod.ext e.1 e.2)))]
      exact h.con i x hi
    · rw [if_pos ⟨rfl, rfl⟩]
      exact ⟨v, rfl, by rw [hv, h3]⟩
  · rcases get i x hi with ⟨_, hi⟩ | ⟨h2, rfl⟩
    · rcases get j x hj with ⟨_, hj⟩ | ⟨_, rfl⟩
      · exact h.dis i j x hi hj
      · exact absurd hi (ne i)
    · rcases get j _ hj with ⟨_, hj⟩ | ⟨h3, _⟩
      · exact absurd hj (ne j)
      · omega
theorem PlF.nil (l : List PgE) : PlF l [] := ⟨fun i x h => by simp at h, fun i j x h => by simp at h⟩
theorem ins_len_f {l : List PgE} {k r a b : Nat} {p s : Int} {d : List UInt8} {pg sl er : Int} {l' : List PgE} {k' : Nat} (h : InsTo l k r a b p s d pg sl er l' k') : l'.length + k' = l.length + k := by
  rcases h with ⟨_, rfl, i, x, _, _, _, rfl, _⟩ | ⟨_, ⟨_, _, _, _, rfl, rfl⟩ | ⟨_, rfl, _, _, _, rfl, rfl⟩ | ⟨_, rfl, _, _, _, nb, rfl⟩⟩
  · rw [List.length_set]
  · rfl
  · rfl
  · simp; omega
theorem tuF {k m : Nat} (hk : k ≤ 30) (hm : m ≤ 200) : tuOk k 1 0 (-1) (-1) (List.replicate m (0 : UInt8)).length = true := by
  rw [List.length_replicate]
  unfold tuOk
  rw [decide_eq_true hm, decide_eq_true (show k ≤ 1099511627776 by omega)]
  decide
theorem bel_drewNf (w : World) (m : Nat) : Below w.heap.size w (w.drewN m) := ⟨rfl, rfl, rfl, Nat.le_refl _, fun _ _ => rfl⟩
theorem free_walk (w : World) (xs : List UInt8) (A0 : Option Addr) (n c0 : Nat) (kz : Int) (hxl : xs.length = n) (hs : Sl w w.heap.size 1 A0 n c0 (u8s xs)) (hkz : 0 ≤ kz ∧ kz ≤ 255) :
    Calls Try.prog 13 #[.slice A0 n c0, .int .u8 kz] w fun e w' => e = .returned (.bool true) ∧ Below w.heap.size w w' := by
  have hcap := hs.cap
  have hle := hs.le
  unfold maxLen at hcap
  have HS := Lib.hid hs
  have HL := Lib.hid hxl
  have hz0 := hkz.1
  have hz1 := hkz.2
  clear hs hxl hkz
  go_enter Try.func13, Try.ntmps13
  go_wp2_with fail
  refine (awake7 _).mono ?_
  rintro e w0 ⟨rfl, hb0⟩
  have HB0 := Lib.hid hb0
  clear hb0
  have CPN := pool_new 256 (by omega) w0
  push_cast at CPN
  go_wp2_with fail
  refine CPN.mono ?_
  rintro e w1 ⟨rfl, hp1, hb1⟩
  clear CPN
  obtain ⟨PL, hPL⟩ : ∃ PL, w0.heap.size = PL := ⟨_, rfl⟩
  rw [hPL] at hp1 ⊢
  have HP1 := Lib.hid hp1
  have HB1 := Lib.hid (bel_trans HB0.out hb1)
  have HPG : Hid (w.heap.size ≤ PL) := Lib.hid (by rw [← hPL]; exact HB0.out.size)
  clear hp1 hb1 hPL
  go_wp2_with fail
  refine (new_s (w := w) PL HB1.out.size (Blk.lt HP1.out)).mono ?_
  rintro e w2 ⟨H, rfl, hf2, hb2⟩
  obtain ⟨F2, hF2⟩ : ∃ F2, New (fun _ => False) w1 w2 = F2 := ⟨_, rfl⟩
  rw [hF2] at hf2
  have A2 : Hid (AW w w2 F2 H PL [] 256) := Lib.hid ⟨hf2, Blk.below HP1.out hb2 (Blk.lt HP1.out), bel_trans HB1.out hb2, HPG.out⟩
  have S5 : Hid (SP w w2 F2 H PL [] 256 none 0 []) := Lib.hid ⟨A2.out, ⟨World.ownsRow_nil _ _ _ _⟩, fun g hg => by simp [Value.ownBlock] at hg⟩
  clear hf2 hb2 hF2 HP1 HB1 HB0 HPG A2
  go_wp2_with fail
  go_loopw [8, 28] (fun lv iv wl => ∃ (k : Nat) (F : Nat → Prop) (l : List PgE) (kk : Nat) (A : Option Addr) (c : Nat) (pl : List (Int × Int)), k ≤ n ∧ k ≤ 30 ∧ iv = .int .i64 k ∧ lv = .slice A k c ∧ pl.length = k ∧ SP w wl F H PL l kk A c pl ∧ l.length ≤ k ∧ l.length + kk = 256 ∧ useds l = k ∧ PlF l pl) (fun _ iv _ => n - (intOf iv).toNat)
  case atStart => exact ⟨0, _, _, _, _, _, _, by omega, by omega, rfl, rfl, rfl, S5.out, by simp, rfl, rfl, PlF.nil _⟩
  case round =>
    obtain ⟨k, F, l, kk, A, c, pl, hk, hk30, rfl, rfl, hpk, hsm, hlk, hsum, hus, hpl⟩ := hrel
    have HSM := Lib.hid hsm
    have HPK := Lib.hid hpk
    have HSU := Lib.hid (And.intro hlk (And.intro hsum hus))
    have HPL := Lib.hid hpl
    clear hsm hpk hlk hsum hus hpl S5
    by_cases hlt : k < n
    · have hlt' : (k : Int) < n := by omega
      obtain ⟨y, hy⟩ : ∃ y, xs[k]? = some y := ⟨_, List.getElem?_eq_getElem (by rw [HL.out]; exact hlt)⟩
      obtain ⟨ad, rfl, hAt⟩ := HS.out.at_ (by omega)
      have z0 : wr.cell? (ad.add k) = some (.int .u8 (y.toNat : Int)) := u8s_at (hAt.below HSM.out.aw.bel) hy
      have hyb : y.toNat < 256 := y.toNat_lt
      obtain ⟨ny, hny⟩ : ∃ ny, y.toNat = ny := ⟨_, rfl⟩
      rw [hny] at z0 hyb
      have hyI : (ny : Int) < 256 := by omega
      clear hAt hy hny
      by_cases h30 : k < 30
      · have h30' : ¬ (30 : Int) ≤ (k : Int) := by omega
        obtain ⟨m, hm⟩ : ∃ m, ny % 201 = m := ⟨_, rfl⟩
        have hm200 : m ≤ 200 := by omega
        have HM := Lib.hid hm200
        have e1 : Int.tmod (ny : Int) 201 = m := by rw [← hm]; exact (Int.ofNat_tmod ny 201).symm
        have e2 : (ny : Int) % 201 = m := by omega
        have e5 : IntKind.u64.wrap (k : Int) = k := by rw [IntKind.wrap_u64]; omega
        have hmk := make_u8 m (by omega) wr
        obtain ⟨gd, hgd⟩ : ∃ gd, wr.heap.size = gd := ⟨_, rfl⟩
        obtain ⟨w5, hw5⟩ : ∃ w5, wr.alloc (.cells (u8s (List.replicate m 0)).toArray 5) = w5 := ⟨_, rfl⟩
        rw [hgd, hw5] at hmk
        have S5' := Lib.hid (HSM.out.below (show Below wr.heap.size wr w5 by rw [← hw5]; exact bel_alloc _ _))
        have D5 : Hid (Sl w5 w5.heap.size 1 (some ⟨gd, 0, none⟩) m m (u8s (List.replicate m 0))) := Lib.hid (by
          have hbb : BB w5 gd 5 (List.replicate m 0) := by rw [← hw5, ← hgd]; exact Blk.new wr _ _
          have h := BB.sl hbb 0 m m (by rw [List.length_replicate]; omega) (Nat.le_refl _) (by unfold maxLen; omega)
          rwa [List.drop_zero, List.take_of_length_le (by rw [List.length_replicate]; exact Nat.le_refl _)] at h)
        clear hm hgd hw5 h30
        go_wp2_with fail
        clear z0 hmk
        refine (ins_s S5'.out.aw.hf S5'.out.aw.pool S5'.out.aw.bel.size (by have := HSU.out; omega) k 1 0 (-1) (-1) (List.replicate m 0) (List.length_replicate ..) D5.out).mono ?_
        rintro e w6 ⟨pg, sl, er, l', k', rfl, hi, hf, hp, ht⟩
        have hiln := ins_len_f hi
        obtain ⟨rfl, hnone, hcont, hus', _, hlen⟩ := hi.cont (tuF hk30 HM.out) (by have := HSU.out; omega)
        have HQ := Lib.hid (And.intro hnone (And.intro hcont (And.intro hus' (And.intro hlen hiln))))
        have S6 := Lib.hid (S5'.out.turn hf hp ht)
        obtain ⟨F6, hF6⟩ : ∃ F6, New F w5 w6 = F6 := ⟨_, rfl⟩
        rw [hF6] at S6
        clear hi hf hp ht hnone hcont hus' hlen hiln hF6
        obtain ⟨T6, hT6⟩ : ∃ T6, w6.heap.size = T6 := ⟨_, rfl⟩
        obtain ⟨w7, hw7⟩ : ∃ w7, w6.alloc (.cells #[.int .i64 pg, .int .i64 sl] 30) = w7 := ⟨_, rfl⟩
        have S7 : Hid (SP w w7 F6 H PL l' k' A c pl) := Lib.hid (by rw [← hw7]; exact S6.out.below (bel_alloc _ _))
        have X7 : Hid (Blk w7 T6 30 #[.int .i64 pg, .int .i64 sl]) := Lib.hid (by rw [← hw7, ← hT6]; exact Blk.new w6 _ _)
        have HW7 := Lib.hid (And.intro hw7 hT6)
        clear hw7 hT6 S6
        go_upto_region 11 with fail
        rw [HW7.out.1, HW7.out.2]
        have y0 := X7.out.cell 0
        have y1 := X7.out.cell 1
        have O7 : Hid (w7.ownsRow w.heap.size 30 2 (.slice A k c) k (tids pl)) := Lib.hid (by have := S7.out.own.own; rwa [HPK.out] at this)
        have hB7 := S7.out.aw.bel.size
        go_upto_region 14 with (at_builtin; go_loud (refine wpl_app_t rfl (.tmp 50) (.tmp 52) rfl w.heap.size _ k (tids pl) rfl (World.ownsRow.alloc O7.out _) _ _ 1 (tids [(pg, sl)]) rfl (lies_at _ #[.int .i64 pg, .int .i64 sl] _ 2 1 w7.heap.size rfl rfl) (fun u hu => by simp [tids] at hu; rcases hu with rfl | rfl <;> rfl) (by omega) (by rw [size_alloc]; omega) ?_; intro v1 w8 hown1 hg1; obtain ⟨A1, c1, hv1, _⟩ := Sl.of_own hown1; subst hv1))
        have S8 := Lib.hid ((S7.out.below (bel_alloc w7 (.cells #[.int .i64 pg, .int .i64 sl] 30))).app (x := (pg, sl)) (A' := A1) (c' := c1) (by rw [HPK.out]; exact hown1) (by rw [HPK.out]; exact hg1))
        clear hown1 hg1 y0 y1 hB7
        go_wp2_with fail
        go_roundw
        case rel => exact ⟨k + 1, F6, l', k', A1, c1, _, by omega, by omega, by go_num, by first | rfl | (congr 1), by rw [List.length_append, HPK.out]; rfl, S8.out, by have := HSU.out; have := HQ.out; omega, by have := HSU.out; have := HQ.out; omega, by have := HSU.out; have := HQ.out; omega, HPL.out.app HQ.out.1 HQ.out.2.1 (by rw [HPK.out]; rfl)⟩
        case measure => simp [intOf]; omega
      · have h30' : (30 : Int) ≤ (k : Int) := by omega
        clear h30
        by_cases hk0 : k = 0
        · have q1 : ((k : Int) == 0) = true := by rw [beq_iff_eq]; omega
          have hu0 : useds l = 0 := by have := HSU.out; omega
          have CU := Lib.hid (used_s HSM.out.aw.hf (by have := HSU.out; omega))
          rw [hu0] at CU
          clear hk0 hu0
          go_wp2_with fail
          refine CU.out.mono ?_
          rintro e wa ⟨rfl, m9, rfl⟩
          go_wp2_with fail
          go_ret
          exact ⟨by first | rfl | simp, by have h := HSM.out.aw.bel; exact ⟨h.os, h.tape, h.output, h.size, h.block⟩⟩
        · have q1 : ((k : Int) == 0) = false := by rw [beq_eq_false_iff_ne]; omega
          have q2 : ¬ (k : Int) = 0 := by omega
          obtain ⟨kn, hkn⟩ : ∃ kn : Nat, kz = kn := ⟨kz.toNat, by omega⟩
          obtain ⟨gx, hgx⟩ : ∃ gx, kn % k = gx := ⟨_, rfl⟩
          have hgl : gx < k := by rw [← hgx]; exact Nat.mod_lt _ (by omega)
          have e1 : Int.tmod kz (k : Int) = gx := by rw [hkn, ← hgx]; exact (Int.ofNat_tmod kn k).symm
          have e2 : kz % (k : Int) = gx := by rw [hkn, ← hgx]; first | exact (Int.natCast_emod kn k).symm | rfl
          obtain ⟨x, hx⟩ : ∃ x, pl[gx]? = some x := ⟨_, List.getElem?_eq_getElem (by rw [HPK.out]; exact hgl)⟩
          obtain ⟨g, cur, hgA, _, _, _, _, y0, y1⟩ := HSM.out.own.form hx
          have HX := Lib.hid hx
          obtain ⟨v, hcv, _⟩ := HPL.out.con gx x hx
          obtain ⟨i, px, hpg, hix, hav⟩ := cont_some hcv
          obtain ⟨L', hfr⟩ := free_of_atv hav
          have HCF := Lib.hid (cont_free hix hfr px.st)
          have HIX := Lib.hid hix
          have CF := Lib.hid (free_s HSM.out.aw.hf (Blk.lt HSM.out.aw.pool) HSM.out.aw.bel.size (by have := HSU.out; omega) hix x.2 0 L' hfr)
          have HNA : Hid (atL L' x.2 = none) := Lib.hid (by
            have h := atv_free hfr x.2
            rw [if_pos rfl] at h
            unfold atv at h
            cases ha : atL L' x.2 with
            | none => rfl
            | some y => rw [ha] at h; cases h)
          rw [← hpg] at CF
          have HPG2 := Lib.hid hpg
          have hglI : (gx : Int) < k := by omega
          have hgx0 : (0 : Int) ≤ gx := by omega
          subst hgA
          clear hkn hgx hx hcv hpg hix hav hfr hk0 hk
          go_wp2_with fail
          refine CF.out.mono ?_
          rintro e w7 ⟨rfl, hf7, ht7⟩
          clear CF y0 y1
          have hp7 : Pool w7 PL kk := (ht7.block PL (Blk.lt HSM.out.aw.pool) HSM.out.aw.hf.pl).trans HSM.out.aw.pool
          have ht7' : Turn (fun g => F g ∨ g = PL) wr w7 := ⟨ht7.os, ht7.tape, ht7.output, ht7.size, fun q hq hn => ht7.block q hq (fun hg => hn (.inl hg))⟩
          have S7 := Lib.hid (HSM.out.turn hf7 hp7 ht7')
          obtain ⟨F7, hF7⟩ : ∃ F7, New F wr w7 = F7 := ⟨_, rfl⟩
          rw [hF7] at S7
          obtain ⟨l7, hl7⟩ : ∃ l7, l.set i ⟨px.b, L', px.st⟩ = l7 := ⟨_, rfl⟩
          rw [hl7] at S7 HCF
          have HL7 : Hid (l7.length = l.length ∧ l7[i]? = some ⟨px.b, L', px.st⟩ ∧ l7.set i ⟨px.b, L', px.st⟩ = l7) := Lib.hid (by
            have hl := (List.getElem?_eq_some_iff.1 HIX.out).1
            rw [← hl7]
            exact ⟨by rw [List.length_set], List.getElem?_set_self hl, by rw [List.set_set]⟩)
          clear hf7 hp7 ht7 ht7' hF7 hl7
          obtain ⟨_, _, hgA', _, _, _, _, y0, y1⟩ := S7.out.own.form HX.out
          injection hgA' with hgA'
          injection hgA' with hgA'
          subst hgA'
          have CF2 := free_s S7.out.aw.hf (Blk.lt S7.out.aw.pool) S7.out.aw.bel.size (by have := HSU.out; have := HL7.out.1; omega) HL7.out.2.1 x.2 15 L' (.inl ⟨HNA.out, rfl, rfl⟩)
          rw [HL7.out.2.2, ← HPG2.out] at CF2
          go_wp2_with fail
          refine CF2.mono ?_
          rintro e w8 ⟨rfl, hf8, ht8⟩
          clear CF2 y0 y1
          have hp8 : Pool w8 PL kk := (ht8.block PL (Blk.lt S7.out.aw.pool) S7.out.aw.hf.pl).trans S7.out.aw.pool
          have ht8' : Turn (fun g => F7 g ∨ g = PL) w7 w8 := ⟨ht8.os, ht8.tape, ht8.output, ht8.size, fun q hq hn => ht8.block q hq (fun hg => hn (.inl hg))⟩
          have S8 := Lib.hid (S7.out.turn hf8 hp8 ht8')
          obtain ⟨F8, hF8⟩ : ∃ F8, New F7 w7 w8 = F8 := ⟨_, rfl⟩
          rw [hF8] at S8
          clear hf8 hp8 ht8 ht8' hF8 S7 HSM
          go_wp2_with fail
          go_loopw [84] (fun iv wl => ∃ j : Nat, j ≤ k ∧ iv = .int .i64 j ∧ SP w wl F8 H PL l7 kk (some ⟨g, 0, none⟩) c pl) (fun iv _ => k - (intOf iv).toNat)
          case atStart => exact ⟨0, by omega, rfl, S8.out⟩
          case round =>
            obtain ⟨j, hj, rfl, hsp⟩ := hrel
            have HT := Lib.hid hsp
            clear hsp S8
            by_cases hjk : j < k
            · have hjk' : (j : Int) < k := by omega
              have hj0 : (0 : Int) ≤ j := by omega
              obtain ⟨xj, hxj⟩ : ∃ xj, pl[j]? = some xj := ⟨_, List.getElem?_eq_getElem (by rw [HPK.out]; exact hjk)⟩
              obtain ⟨_, _, hgA', _, _, _, _, y0, y1⟩ := HT.out.own.form hxj
              injection hgA' with hgA'
              injection hgA' with hgA'
              subst hgA'
              have HXJ := Lib.hid hxj
              clear hxj
              obtain ⟨p1, p2⟩ := xj
              obtain ⟨T8, hT8⟩ : ∃ T8, wr.heap.size = T8 := ⟨_, rfl⟩
              obtain ⟨w9, hw9⟩ : ∃ w9, wr.alloc (.cells #[.int .i64 p1, .int .i64 p2] 30) = w9 := ⟨_, rfl⟩
              have S9 : Hid (SP w w9 F8 H PL l7 kk (some ⟨g, 0, none⟩) c pl) := Lib.hid (by rw [← hw9]; exact HT.out.below (bel_alloc _ _))
              have X9 : Hid (Blk w9 T8 30 #[.int .i64 p1, .int .i64 p2]) := Lib.hid (by rw [← hw9, ← hT8]; exact Blk.new wr _ _)
              have HW9 := Lib.hid (And.intro hw9 hT8)
              clear hw9 hT8
              go_upto_region 23 with fail
              rw [HW9.out.1, HW9.out.2]
              clear y0 y1
              have y0 := X9.out.cell 0
              have y1 := X9.out.cell 1
              go_wp2_with fail
              clear y0 y1
              refine (get_s S9.out.aw.hf p1 p2).mono ?_
              rintro e wa ⟨r, a, b, p, s, Au, nu, cu, ok, rfl, hgr, hba⟩
              have SA := Lib.hid (S9.out.below hba)
              have HGR := Lib.hid hgr
              clear hgr hba
              obtain ⟨Ta, hTa⟩ : ∃ Ta, wa.heap.size = Ta := ⟨_, rfl⟩
              obtain ⟨wb, hwb⟩ : ∃ wb, wa.alloc (.cells #[.int .u64 r, .int .u64 a, .int .u64 b, .int .i64 p, .int .i64 s, .slice Au nu cu] 33) = wb := ⟨_, rfl⟩
              have SB : Hid (SP w wb F8 H PL l7 kk (some ⟨g, 0, none⟩) c pl) := Lib.hid (by rw [← hwb]; exact SA.out.below (bel_alloc _ _))
              have XB : Hid (Blk wb Ta 33 #[.int .u64 r, .int .u64 a, .int .u64 b, .int .i64 p, .int .i64 s, .slice Au nu cu]) := Lib.hid (by rw [← hwb, ← hTa]; exact Blk.new wa _ _)
              have HWB := Lib.hid (And.intro hwb hTa)
              clear hwb hTa SA
              go_upto_region 24 with fail
              rw [HWB.out.1, HWB.out.2]
              have z0 := XB.out.cell 0
              have e5 : IntKind.u64.wrap (j : Int) = j := by rw [IntKind.wrap_u64]; omega
              by_cases hjg : j = gx
              · have hok : ok = false := by
                  have hcn : cont l7 p1 p2 = none := by
                    have hxe : x = (p1, p2) := by have h1 := HXJ.out; rw [hjg, HX.out] at h1; injection h1
                    rw [HCF.out.1, if_pos ⟨by rw [← HPG2.out, hxe], by rw [hxe]⟩]
                  rcases HGR.out with ⟨v', h1, _⟩ | ⟨_, h2⟩
                  · rw [hcn] at h1; cases h1
                  · exact h2
                have q3 : ((j : Int) != (gx : Int)) = false := by rw [hjg]; simp
                have q4 : ((j : Int) == (gx : Int)) = true := by rw [hjg]; simp
                subst hok
                clear hjg
                go_wp2_with fail
                go_roundw
                case rel => exact ⟨j + 1, by omega, by go_num, SB.out⟩
                case measure => simp [intOf]; omega
              · have hok : ok = true ∧ r = j := by
                  obtain ⟨v', h1, h2⟩ := HPL.out.con j _ HXJ.out
                  have hcn : cont l7 p1 p2 = some v' := by
                    rw [HCF.out.1, if_neg (fun e => hjg (HPL.out.dis j gx (p1, p2) HXJ.out (by rw [HX.out]; exact congrArg some (Prod.ext (by rw [HPG2.out]; exact e.1.symm) e.2.symm))))]
                    exact h1
                  rcases HGR.out with ⟨v'', h3, h4, h5⟩ | ⟨h3, _⟩
                  · rw [hcn] at h3
                    injection h3 with h3
                    subst h3
                    exact ⟨h4, by rw [h5, h2]⟩
                  · rw [hcn] at h3; cases h3
                obtain ⟨rfl, rfl⟩ := hok
                have q3 : ((r : Int) != (gx : Int)) = true := by rw [bne_iff_ne]; omega
                have q4 : ((r : Int) == (gx : Int)) = false := by rw [beq_eq_false_iff_ne]; omega
                clear hjg
                go_wp2_with fail
                go_roundw
                case rel => exact ⟨r + 1, by omega, by go_num, SB.out⟩
                case measure => simp [intOf]; omega
            · have hje : ¬ (j : Int) < k := by omega
              have hu7 : useds l7 = k - 1 := by have := HCF.out.2; have := HSU.out; omega
              have CU := Lib.hid (used_s HT.out.aw.hf (by have := HSU.out; have := HL7.out.1; omega))
              have e6 : ((k - 1 : Nat) : Int) = (k : Int) - 1 := by omega
              rw [hu7, e6] at CU
              clear hu7 e6 hjk
              go_wp2_with fail
              refine CU.out.mono ?_
              rintro e wa ⟨rfl, m9, rfl⟩
              go_wp2_with fail
              go_ret
              exact ⟨by first | rfl | simp, by have h := HT.out.aw.bel; exact ⟨h.os, h.tape, h.output, h.size, h.block⟩⟩
    · have hnl : ¬ (k : Int) < n := by omega
      by_cases hk0 : k = 0
      · have q1 : ((k : Int) == 0) = true := by rw [beq_iff_eq]; omega
        have hu0 : useds l = 0 := by have := HSU.out; omega
        have CU := Lib.hid (used_s HSM.out.aw.hf (by have := HSU.out; omega))
        rw [hu0] at CU
        clear hk0 hu0
        go_wp2_with fail
        refine CU.out.mono ?_
        rintro e wa ⟨rfl, m9, rfl⟩
        go_wp2_with fail
        go_ret
        exact ⟨by first | rfl | simp, by have h := HSM.out.aw.bel; exact ⟨h.os, h.tape, h.output, h.size, h.block⟩⟩
      · have q1 : ((k : Int) == 0) = false := by rw [beq_eq_false_iff_ne]; omega
        have q2 : ¬ (k : Int) = 0 := by omega
        obtain ⟨kn, hkn⟩ : ∃ kn : Nat, kz = kn := ⟨kz.toNat, by omega⟩
        obtain ⟨gx, hgx⟩ : ∃ gx, kn % k = gx := ⟨_, rfl⟩
        have hgl : gx < k := by rw [← hgx]; exact Nat.mod_lt _ (by omega)
        have e1 : Int.tmod kz (k : Int) = gx := by rw [hkn, ← hgx]; exact (Int.ofNat_tmod kn k).symm
        have e2 : kz % (k : Int) = gx := by rw [hkn, ← hgx]; first | exact (Int.natCast_emod kn k).symm | rfl
        obtain ⟨x, hx⟩ : ∃ x, pl[gx]? = some x := ⟨_, List.getElem?_eq_getElem (by rw [HPK.out]; exact hgl)⟩
        obtain ⟨g, cur, hgA, _, _, _, _, y0, y1⟩ := HSM.out.own.form hx
        have HX := Lib.hid hx
        obtain ⟨v, hcv, _⟩ := HPL.out.con gx x hx
        obtain ⟨i, px, hpg, hix, hav⟩ := cont_some hcv
        obtain ⟨L', hfr⟩ := free_of_atv hav
        have HCF := Lib.hid (cont_free hix hfr px.st)
        have HIX := Lib.hid hix
        have CF := Lib.hid (free_s HSM.out.aw.hf (Blk.lt HSM.out.aw.pool) HSM.out.aw.bel.size (by have := HSU.out; omega) hix x.2 0 L' hfr)
        have HNA : Hid (atL L' x.2 = none) := Lib.hid (by
          have h := atv_free hfr x.2
          rw [if_pos rfl] at h
          unfold atv at h
          cases ha : atL L' x.2 with
          | none => rfl
          | some y => rw [ha] at h; cases h)
        rw [← hpg] at CF
        have HPG2 := Lib.hid hpg
        have hglI : (gx : Int) < k := by omega
        have hgx0 : (0 : Int) ≤ gx := by omega
        subst hgA
        clear hkn hgx hx hcv hpg hix hav hfr hk0 hk
        go_wp2_with fail
        refine CF.out.mono ?_
        rintro e w7 ⟨rfl, hf7, ht7⟩
        clear CF y0 y1
        have hp7 : Pool w7 PL kk := (ht7.block PL (Blk.lt HSM.out.aw.pool) HSM.out.aw.hf.pl).trans HSM.out.aw.pool
        have ht7' : Turn (fun g => F g ∨ g = PL) wr w7 := ⟨ht7.os, ht7.tape, ht7.output, ht7.size, fun q hq hn => ht7.block q hq (fun hg => hn (.inl hg))⟩
        have S7 := Lib.hid (HSM.out.turn hf7 hp7 ht7')
        obtain ⟨F7, hF7⟩ : ∃ F7, New F wr w7 = F7 := ⟨_, rfl⟩
        rw [hF7] at S7
        obtain ⟨l7, hl7⟩ : ∃ l7, l.set i ⟨px.b, L', px.st⟩ = l7 := ⟨_, rfl⟩
        rw [hl7] at S7 HCF
        have HL7 : Hid (l7.length = l.length ∧ l7[i]? = some ⟨px.b, L', px.st⟩ ∧ l7.set i ⟨px.b, L', px.st⟩ = l7) := Lib.hid (by
          have hl := (List.getElem?_eq_some_iff.1 HIX.out).1
          rw [← hl7]
          exact ⟨by rw [List.length_set], List.getElem?_set_self hl, by rw [List.set_set]⟩)
        clear hf7 hp7 ht7 ht7' hF7 hl7
        obtain ⟨_, _, hgA', _, _, _, _, y0, y1⟩ := S7.out.own.form HX.out
        injection hgA' with hgA'
        injection hgA' with hgA'
        subst hgA'
        have CF2 := free_s S7.out.aw.hf (Blk.lt S7.out.aw.pool) S7.out.aw.bel.size (by have := HSU.out; have := HL7.out.1; omega) HL7.out.2.1 x.2 15 L' (.inl ⟨HNA.out, rfl, rfl⟩)
        rw [HL7.out.2.2, ← HPG2.out] at CF2
        go_wp2_with fail
        refine CF2.mono ?_
        rintro e w8 ⟨rfl, hf8, ht8⟩
        clear CF2 y0 y1
        have hp8 : Pool w8 PL kk := (ht8.block PL (Blk.lt S7.out.aw.pool) S7.out.aw.hf.pl).trans S7.out.aw.pool
        have ht8' : Turn (fun g => F7 g ∨ g = PL) w7 w8 := ⟨ht8.os, ht8.tape, ht8.output, ht8.size, fun q hq hn => ht8.block q hq (fun hg => hn (.inl hg))⟩
        have S8 := Lib.hid (S7.out.turn hf8 hp8 ht8')
        obtain ⟨F8, hF8⟩ : ∃ F8, New F7 w7 w8 = F8 := ⟨_, rfl⟩
        rw [hF8] at S8
        clear hf8 hp8 ht8 ht8' hF8 S7 HSM
        go_wp2_with fail
        go_loopw [84] (fun iv wl => ∃ j : Nat, j ≤ k ∧ iv = .int .i64 j ∧ SP w wl F8 H PL l7 kk (some ⟨g, 0, none⟩) c pl) (fun iv _ => k - (intOf iv).toNat)
        case atStart => exact ⟨0, by omega, rfl, S8.out⟩
        case round =>
          obtain ⟨j, hj, rfl, hsp⟩ := hrel
          have HT := Lib.hid hsp
          clear hsp S8
          by_cases hjk : j < k
          · have hjk' : (j : Int) < k := by omega
            have hj0 : (0 : Int) ≤ j := by omega
            obtain ⟨xj, hxj⟩ : ∃ xj, pl[j]? = some xj := ⟨_, List.getElem?_eq_getElem (by rw [HPK.out]; exact hjk)⟩
            obtain ⟨_, _, hgA', _, _, _, _, y0, y1⟩ := HT.out.own.form hxj
            injection hgA' with hgA'
            injection hgA' with hgA'
            subst hgA'
            have HXJ := Lib.hid hxj
            clear hxj
            obtain ⟨p1, p2⟩ := xj
            obtain ⟨T8, hT8⟩ : ∃ T8, wr.heap.size = T8 := ⟨_, rfl⟩
            obtain ⟨w9, hw9⟩ : ∃ w9, wr.alloc (.cells #[.int .i64 p1, .int .i64 p2] 30) = w9 := ⟨_, rfl⟩
            have S9 : Hid (SP w w9 F8 H PL l7 kk (some ⟨g, 0, none⟩) c pl) := Lib.hid (by rw [← hw9]; exact HT.out.below (bel_alloc _ _))
            have X9 : Hid (Blk w9 T8 30 #[.int .i64 p1, .int .i64 p2]) := Lib.hid (by rw [← hw9, ← hT8]; exact Blk.new wr _ _)
            have HW9 := Lib.hid (And.intro hw9 hT8)
            clear hw9 hT8
            go_upto_region 23 with fail
            rw [HW9.out.1, HW9.out.2]
            clear y0 y1
            have y0 := X9.out.cell 0
            have y1 := X9.out.cell 1
            go_wp2_with fail
            clear y0 y1
            refine (get_s S9.out.aw.hf p1 p2).mono ?_
            rintro e wa ⟨r, a, b, p, s, Au, nu, cu, ok, rfl, hgr, hba⟩
            have SA := Lib.hid (S9.out.below hba)
            have HGR := Lib.hid hgr
            clear hgr hba
            obtain ⟨Ta, hTa⟩ : ∃ Ta, wa.heap.size = Ta := ⟨_, rfl⟩
            obtain ⟨wb, hwb⟩ : ∃ wb, wa.alloc (.cells #[.int .u64 r, .int .u64 a, .int .u64 b, .int .i64 p, .int .i64 s, .slice Au nu cu] 33) = wb := ⟨_, rfl⟩
            have SB : Hid (SP w wb F8 H PL l7 kk (some ⟨g, 0, none⟩) c pl) := Lib.hid (by rw [← hwb]; exact SA.out.below (bel_alloc _ _))
            have XB : Hid (Blk wb Ta 33 #[.int .u64 r, .int .u64 a, .int .u64 b, .int .i64 p, .int .i64 s, .slice Au nu cu]) := Lib.hid (by rw [← hwb, ← hTa]; exact Blk.new wa _ _)
            have HWB := Lib.hid (And.intro hwb hTa)
            clear hwb hTa SA
            go_upto_region 24 with fail
            rw [HWB.out.1, HWB.out.2]
            have z0 := XB.out.cell 0
            have e5 : IntKind.u64.wrap (j : Int) = j := by rw [IntKind.wrap_u64]; omega
            by_cases hjg : j = gx
            · have hok : ok = false := by
                have hcn : cont l7 p1 p2 = none := by
                  have hxe : x = (p1, p2) := by have h1 := HXJ.out; rw [hjg, HX.out] at h1; injection h1
                  rw [HCF.out.1, if_pos ⟨by rw [← HPG2.out, hxe], by rw [hxe]⟩]
                rcases HGR.out with ⟨v', h1, _⟩ | ⟨_, h2⟩
                · rw [hcn] at h1; cases h1
                · exact h2
              have q3 : ((j : Int) != (gx : Int)) = false := by rw [hjg]; simp
              have q4 : ((j : Int) == (gx : Int)) = true := by rw [hjg]; simp
              subst hok
              clear hjg
              go_wp2_with fail
              go_roundw
              case rel => exact ⟨j + 1, by omega, by go_num, SB.out⟩
              case measure => simp [intOf]; omega
            · have hok : ok = true ∧ r = j := by
                obtain ⟨v', h1, h2⟩ := HPL.out.con j _ HXJ.out
                have hcn : cont l7 p1 p2 = some v' := by
                  rw [HCF.out.1, if_neg (fun e => hjg (HPL.out.dis j gx (p1, p2) HXJ.out (by rw [HX.out]; exact congrArg some (Prod.ext (by rw [HPG2.out]; exact e.1.symm) e.2.symm))))]
                  exact h1
                rcases HGR.out with ⟨v'', h3, h4, h5⟩ | ⟨h3, _⟩
                · rw [hcn] at h3
                  injection h3 with h3
                  subst h3
                  exact ⟨h4, by rw [h5, h2]⟩
                · rw [hcn] at h3; cases h3
              obtain ⟨rfl, rfl⟩ := hok
              have q3 : ((r : Int) != (gx : Int)) = true := by rw [bne_iff_ne]; omega
              have q4 : ((r : Int) == (gx : Int)) = false := by rw [beq_eq_false_iff_ne]; omega
              clear hjg
              go_wp2_with fail
              go_roundw
              case rel => exact ⟨r + 1, by omega, by go_num, SB.out⟩
              case measure => simp [intOf]; omega
          · have hje : ¬ (j : Int) < k := by omega
            have hu7 : useds l7 = k - 1 := by have := HCF.out.2; have := HSU.out; omega
            have CU := Lib.hid (used_s HT.out.aw.hf (by have := HSU.out; have := HL7.out.1; omega))
            have e6 : ((k - 1 : Nat) : Int) = (k : Int) - 1 := by omega
            rw [hu7, e6] at CU
            clear hu7 e6 hjk
            go_wp2_with fail
            refine CU.out.mono ?_
            rintro e wa ⟨rfl, m9, rfl⟩
            go_wp2_with fail
            go_ret
            exact ⟨by first | rfl | simp, by have h := HT.out.aw.bel; exact ⟨h.os, h.tape, h.output, h.size, h.block⟩⟩
end Go.Proofs.Ythghnhcopmmmpaa.Hea
/- What Stamp makes of what lies at a heap's places; places that tell one another. -/
namespace Go.Proofs.Ythghnhcopmmmpaa.Hea
open Go.RowKit Go.Proofs.Ythghnhcopmmmpaa.Nums Go.Proofs.Ythghnhcopmmmpaa.Mem Go.Proofs.Ythghnhcopmmmpaa.Room
set_option linter.unusedVariables false
set_option linter.unusedSimpArgs false
set_option maxRecDepth 100000
set_option maxHeartbeats 1000000
theorem atv_stamp {L : SL} {i : Int} {U : Nat} {p s : Int} {v : Ver} (hv : atv L i = some v) (hU : U ≤ 1099511627776) (hn : nxOk p s = true) (j : Int) : atv (stampR L i U p s).2 j = if j = i then some (v.stamped U (p + 1).toNat (s + 1).toNat) else atv L j := by
  unfold atv at hv
  cases ha : atL L i with
  | none => rw [ha] at hv; cases hv
  | some y =>
    obtain ⟨v', f⟩ := y
    rw [ha] at hv
    injection hv with hv
    have hv' : v' = v := hv
    subst hv'
    obtain ⟨k, rfl, hk⟩ := atL_some ha
    have hkl := (List.getElem?_eq_some_iff.1 hk).1
    have e : (stampR L k U p s).2 = L.set k (some (v'.stamped U (p + 1).toNat (s + 1).toNat, f)) := by
      unfold stampR
      rw [if_pos ⟨hU, hn⟩, ha]
      rfl
    rw [e]
    by_cases hj : j < 0
    · rw [atv_neg hj, if_neg (by omega), atv_neg hj]
    · obtain ⟨q, rfl⟩ : ∃ q : Nat, j = q := ⟨j.toNat, by omega⟩
      rw [atv_nat]
      by_cases e : q = k
      · subst e
        rw [if_pos rfl, List.getElem?_set_self hkl]
        rfl
      · rw [if_neg (by omega), atv_nat, List.getElem?_set_ne (Ne.symm e)]
theorem cont_stamp {l : List PgE} {i : Nat} {x : PgE} {sl : Int} {U : Nat} {p s : Int} {v : Ver} (hi : l[i]? = some x) (hv : atv x.L sl = some v) (hU : U ≤ 1099511627776) (hn : nxOk p s = true) (st : Nat) (q y : Int) :
    cont (l.set i ⟨x.b, (stampR x.L sl U p s).2, st⟩) q y = if q = i ∧ y = sl then some (v.stamped U (p + 1).toNat (s + 1).toNat) else cont l q y := by
  rw [cont_set hi]
  by_cases e : q = i
  · rw [if_pos e]
    show atv (stampR x.L sl U p s).2 y = _
    rw [atv_stamp hv hU hn]
    by_cases e2 : y = sl
    · rw [if_pos e2, if_pos ⟨e, e2⟩]
    · rw [if_neg e2, if_neg (fun h => e2 h.2), e, cont_nat, hi]
  · rw [if_neg e, if_neg (fun h => e h.1)]
/-- where the version behind it lies -/
def nxt (v : Ver) : Int × Int := ((v.p : Int) - 1, (v.s : Int) - 1)
theorem nxt_stamped {v : Ver} {U : Nat} {p s : Int} (hn : nxOk p s = true) : nxt (v.stamped U (p + 1).toNat (s + 1).toNat) = (p, s) := by
  have h := nx_to hn
  show (((p + 1).toNat : Int) - 1, ((s + 1).toNat : Int) - 1) = (p, s)
  rw [h.1, h.2.1]
/-- the places are apart, a version lies at each; of the first i each tells the next one, the others tell nowhere -/
structure ChL (l : List PgE) (pl : List (Int × Int)) (i : Nat) : Prop where
  con : ∀ (j : Nat) (x : Int × Int), pl[j]? = some x → ∃ v, cont l x.1 x.2 = some v ∧ (j < i → pl[j + 1]? = some (nxt v)) ∧ (i ≤ j → nxt v = (-1, -1))
  dis : ∀ (i j : Nat) (x : Int × Int), pl[i]? = some x → pl[j]? = some x → i = j
theorem ChL.nil (l : List PgE) : ChL l [] 0 := ⟨fun j x h => by simp at h, fun i j x h => by simp at h⟩
theorem ChL.app {l l' : List PgE} {pl : List (Int × Int)} {pg sl : Int} {v : Ver} (h : ChL l pl 0) (h0 : cont l pg sl = none) (h1 : ∀ x y, cont l' x y = if x = pg ∧ y = sl then some v else cont l x y) (hv : nxt v = (-1, -1)) : ChL l' (pl ++ [(pg, sl)]) 0 := by
  have get : ∀ (i : Nat) (x : Int × Int), (pl ++ [(pg, sl)])[i]? = some x → (i < pl.length ∧ pl[i]? = some x) ∨ (i = pl.length ∧ x = (pg, sl)) := by
    intro i x hi
    by_cases e : i < pl.length
    · rw [List.getElem?_append_left e] at hi; exact .inl ⟨e, hi⟩
    · rw [List.getElem?_append_right (by omega)] at hi
      cases hq : i - pl.length with
      | zero => rw [hq] at hi; simp at hi; exact .inr ⟨by omega, hi.symm⟩
      | succ k => rw [hq] at hi; simp at hi
  have ne : ∀ (i : Nat), pl[i]? ≠ some (pg, sl) := fun i hi => by
    obtain ⟨v, h2, _⟩ := h.con i _ hi
    rw [h0] at h2
    cases h2
  refine ⟨fun i x hi => ?_, fun i j x hi hj => ?_⟩
  · rw [h1]
    rcases get i x hi with ⟨_, hi⟩ | ⟨h3, rfl⟩
    · rw [if_neg (fun e => ne i (by rw [hi]; exact congrArg some (Prod.ext e.1 e.2)))]
      obtain ⟨v', h2, _, h4⟩ := h.con i x hi
      exact ⟨v', h2, fun h => absurd h (by omega), h4⟩
    · rw [if_pos ⟨rfl, rfl⟩]
      exact ⟨v, rfl, fun h => absurd h (by omega), fun _ => hv⟩
  · rcases get i x hi with ⟨_, hi⟩ | ⟨h2, rfl⟩
    · rcases get j x hj with ⟨_, hj⟩ | ⟨_, rfl⟩
      · exact h.dis i j x hi hj
      · exact absurd hi (ne i)
    · rcases get j _ hj with ⟨_, hj⟩ | ⟨h3, _⟩
      · exact absurd hj (ne j)
      · omega
theorem ChL.stamp {l l' : List PgE} {pl : List (Int × Int)} {i : Nat} {x y : Int × Int} {v : Ver} (h : ChL l pl i) (hx : pl[i]? = some x) (hy : pl[i + 1]? = some y) (h1 : ∀ p q, cont l' p q = if p = x.1 ∧ q = x.2 then some v else cont l p q) (hv : nxt v = y) : ChL l' pl (i + 1) := by
  refine ⟨fun j z hj => ?_, h.dis⟩
  rw [h1]
  by_cases e : j = i
  · subst e
    rw [hx] at hj
    injection hj with hj
    subst hj
    rw [if_pos ⟨rfl, rfl⟩]
    exact ⟨v, rfl, fun _ => by rw [hy, hv], fun h => absurd h (by omega)⟩
  · rw [if_neg (fun q => e (h.dis j i x (by rw [hj]; exact congrArg some (Prod.ext q.1 q.2)) hx))]
    obtain ⟨v', h2, h3, h4⟩ := h.con j z hj
    exact ⟨v', h2, fun h => h3 (by omega), fun h => h4 (by omega)⟩
/-- a way through a heap: apart, each telling the next one, the last one E, where nothing lies, or one of these -/
structure Path (l : List PgE) (R : List (Int × Int)) (E : Int × Int) : Prop where
  con : ∀ (j : Nat) (x : Int × Int), R[j]? = some x → ∃ v, cont l x.1 x.2 = some v ∧ (R ++ [E])[j + 1]? = some (nxt v)
  dis : ∀ (i j : Nat) (x : Int × Int), R[i]? = some x → R[j]? = some x → i = j
  fin : cont l E.1 E.2 = none ∨ E ∈ R
theorem cont_out (l : List PgE) {q : Int} (h : q < 0) (y : Int) : cont l q y = none := by unfold cont; rw [if_pos h]
theorem ChL.path {l : List PgE} {pl : List (Int × Int)} {k f : Nat} (h : ChL l pl (k - 1)) (hk : pl.length = k) (hf : f < k) : Path l (pl.drop f) (-1, -1) := by
  refine ⟨fun j x hj => ?_, fun i j x hi hj => ?_, .inl (cont_out l (by show (-1 : Int) < 0; omega) _)⟩
  · rw [List.getElem?_drop] at hj
    obtain ⟨v, h1, h2, h3⟩ := h.con _ _ hj
    refine ⟨v, h1, ?_⟩
    have hl := (List.getElem?_eq_some_iff.1 hj).1
    by_cases e : f + j < k - 1
    · rw [List.getElem?_append_left (by rw [List.length_drop]; omega), List.getElem?_drop]
      exact h2 e
    · rw [List.getElem?_append_right (by rw [List.length_drop]; omega), List.length_drop, h3 (by omega), show j + 1 - (pl.length - f) = 0 by omega]
      rfl
  · rw [List.getElem?_drop] at hi hj
    have := h.dis _ _ _ hi hj
    omega
theorem rot_at {α : Type} {pl : List α} {f j : Nat} (hf : f < pl.length) (hj : j < pl.length) : (pl.drop f ++ pl.take f)[j]? = pl[if f + j < pl.length then f + j else f + j - pl.length]? := by
  by_cases e : f + j < pl.length
  · rw [if_pos e, List.getElem?_append_left (by rw [List.length_drop]; omega), List.getElem?_drop]
  · rw [if_neg e, List.getElem?_append_right (by rw [List.length_drop]; omega), List.length_drop, List.getElem?_take, if_pos (by omega)]
    congr 1
    omega
theorem ChL.circle {l l' : List PgE} {pl : List (Int × Int)} {k f : Nat} {x y z : Int × Int} {v : Ver} (h : ChL l pl (k - 1)) (hk : pl.length = k) (hf : f < k) (hx : pl[k - 1]? = some x) (hy : pl[0]? = some y) (hz : pl[f]? = some z) (h1 : ∀ p q, cont l' p q = if p = x.1 ∧ q = x.2 then some v else cont l p q) (hv : nxt v = y) : Path l' (pl.drop f ++ pl.take f) z := by
  have key : ∀ (j : Nat) (u : Int × Int), pl[j]? = some u → ∃ v, cont l' u.1 u.2 = some v ∧ pl[if j + 1 < k then j + 1 else 0]? = some (nxt v) := by
    intro j u hj
    have hl := (List.getElem?_eq_some_iff.1 hj).1
    rw [h1]
    by_cases e : j = k - 1
    · subst e
      rw [hx] at hj
      injection hj with hj
      subst hj
      rw [if_pos ⟨rfl, rfl⟩, if_neg (by omega)]
      exact ⟨v, rfl, by rw [hy, hv]⟩
    · rw [if_neg (fun q => e (h.dis j (k - 1) x (by rw [hj]; exact congrArg some (Prod.ext q.1 q.2)) hx)), if_pos (by omega)]
      obtain ⟨v', h2, h3, _⟩ := h.con j u hj
      exact ⟨v', h2, h3 (by omega)⟩
  have hlen : (pl.drop f ++ pl.take f).length = k := by rw [List.length_append, List.length_drop, List.length_take]; omega
  refine ⟨fun j u hj => ?_, fun i j u hi hj => ?_, .inr ?_⟩
  · have hl := (List.getElem?_eq_some_iff.1 hj).1
    rw [rot_at (by omega) (by omega), hk] at hj
    obtain ⟨v, h2, h3⟩ := key _ _ hj
    refine ⟨v, h2, ?_⟩
    rw [← h3]
    by_cases e : j + 1 < k
    · rw [List.getElem?_append_left (by omega), rot_at (by omega) (by omega), hk]
      congr 1
      split <;> split <;> (try split) <;> omega
    · rw [List.getElem?_append_right (by omega), hlen, show j + 1 - k = 0 by omega]
      show some z = _
      rw [← hz]
      congr 1
      split <;> (try split) <;> omega
  · have hl := (List.getElem?_eq_some_iff.1 hi).1
    have hl2 := (List.getElem?_eq_some_iff.1 hj).1
    rw [rot_at (by omega) (by omega), hk] at hi hj
    have := h.dis _ _ _ hi hj
    split at this <;> split at this <;> omega
  · have : (pl.drop f ++ pl.take f)[0]? = some z := by
      rw [rot_at (by omega) (by omega), hk, if_pos (by omega)]
      exact hz
    exact List.mem_of_getElem? this
end Go.Proofs.Ythghnhcopmmmpaa.Hea
/- heap.Get, with where the version behind it lies. -/
namespace Go.Proofs.Ythghnhcopmmmpaa.Hea
open Go.RowKit Go.Proofs.Ythghnhcopmmmpaa.Nums Go.Proofs.Ythghnhcopmmmpaa.Mem Go.Proofs.Ythghnhcopmmmpaa.Room
set_option linter.unusedVariables false
set_option linter.unusedSimpArgs false
set_option maxRecDepth 100000
set_option maxHeartbeats 4000000
/-- what is told of a place -/
def GetQ (l : List PgE) (pg sl : Int) (p s : Int) (ok : Bool) : Prop := (∃ v, cont l pg sl = some v ∧ ok = true ∧ nxt v = (p, s)) ∨ (cont l pg sl = none ∧ ok = false)
section
variable {w : World} {F : Nat → Prop} {H PL : Nat} {l : List PgE} {Rs : List Int} {A : Option Addr} {c M : Nat} {Ar : Option Addr} {cr : Nat}
theorem page_getq (h : HA w F H PL l Rs A c M Ar cr) (pg sl : Int) :
    Calls Try.prog 26 #[pgV l pg, .int .i64 sl] w fun e w' => ∃ (r a b : Nat) (p s : Int) (Au : Option Addr) (nu cu : Nat) (ok : Bool), e = .returned (.tuple #[.agg #[.int .u64 r, .int .u64 a, .int .u64 b, .int .i64 p, .int .i64 s, .slice Au nu cu], .bool ok]) ∧ GetQ l pg sl p s ok ∧ Below w.heap.size w w' := by
  by_cases h0 : pg < 0 ∨ (l.length : Int) ≤ pg
  · have hv : pgV l pg = .pointer none := if_pos h0
    have hc : cont l pg sl = none := by
      unfold cont
      split
      · rfl
      · rw [List.getElem?_eq_none (by omega)]
    rw [hv]
    refine (get_nil sl w).mono ?_
    rintro e w' ⟨rfl, hb⟩
    exact ⟨0, 0, 0, 0, 0, none, 0, 0, false, rfl, .inr ⟨hc, rfl⟩, hb⟩
  · obtain ⟨i, rfl⟩ : ∃ i : Nat, pg = i := ⟨pg.toNat, by omega⟩
    obtain ⟨x, hx⟩ : ∃ x, l[i]? = some x := ⟨_, List.getElem?_eq_getElem (by omega)⟩
    have hv : pgV l i = .pointer (some ⟨x.b, 0, none⟩) := by unfold pgV; rw [if_neg h0, Int.toNat_natCast, hx]
    have hc : cont l i sl = atv x.L sl := by rw [cont_nat, hx]
    rw [hv]
    cases ha : atL x.L sl with
    | none =>
      refine (get_has_none x.b x.L x.st sl w (h.pg i x hx) ha).mono ?_
      rintro e w' ⟨rfl, hb⟩
      exact ⟨0, 0, 0, 0, 0, none, 0, 0, false, rfl, .inr ⟨by rw [hc]; unfold atv; rw [ha]; rfl, rfl⟩, hb⟩
    | some y =>
      obtain ⟨v, f⟩ := y
      refine (get_has_some x.b x.L x.st sl v f w (h.pg i x hx) ha).mono ?_
      rintro e w' ⟨u, rfl, ho, hb⟩
      obtain ⟨Au, cu, rfl, _⟩ := Sl.of_own ho
      exact ⟨v.r, v.a, v.b, _, _, Au, _, cu, true, rfl, .inl ⟨v, by rw [hc]; unfold atv; rw [ha]; rfl, rfl, rfl⟩, hb⟩
theorem get_hq (h : HA w F H PL l Rs A c M Ar cr) (pg sl : Int) :
    Calls Try.prog 60 #[.pointer (some ⟨H, 0, none⟩), .agg #[.int .i64 pg, .int .i64 sl]] w fun e w' => ∃ (r a b : Nat) (p s : Int) (Au : Option Addr) (nu cu : Nat) (ok : Bool), e = .returned (.tuple #[.agg #[.int .u64 r, .int .u64 a, .int .u64 b, .int .i64 p, .int .i64 s, .slice Au nu cu], .bool ok]) ∧ GetQ l pg sl p s ok ∧ Below w.heap.size w w' := by
  obtain ⟨T0, hT0⟩ : ∃ T0, w.heap.size = T0 := ⟨_, rfl⟩
  obtain ⟨T1, hT1⟩ : ∃ T1, T0 + 1 = T1 := ⟨_, rfl⟩
  obtain ⟨W1, hW1⟩ : ∃ W1, w.alloc (.cells #[.int .i64 pg, .int .i64 sl] 30) = W1 := ⟨_, rfl⟩
  obtain ⟨W0, hW0⟩ : ∃ W0, W1.alloc (.cells #[.int .u64 0, .int .u64 0, .int .u64 0, .int .i64 0, .int .i64 0, .slice none 0 0] 33) = W0 := ⟨_, rfl⟩
  have hs1 : W1.heap.size = T1 := by rw [← hW1, size_alloc, hT0, hT1]
  have hb0 : Below w.heap.size w W0 := by rw [← hW0]; exact bel_trans (by rw [← hW1]; exact bel_alloc _ _) (bel_alloc _ _)
  have hbT : Blk W0 T0 30 #[.int .i64 pg, .int .i64 sl] := by rw [← hW0]; exact Blk.alloc (by rw [← hW1, ← hT0]; exact Blk.new w _ _) _
  have hbR : Blk W0 T1 33 #[.int .u64 0, .int .u64 0, .int .u64 0, .int .i64 0, .int .i64 0, .slice none 0 0] := by rw [← hW0, ← hs1]; exact Blk.new W1 _ _
  have HH := Lib.hid (h.below hb0)
  have HBT := Lib.hid hbT
  have HBR := Lib.hid hbR
  have HB0 := Lib.hid hb0
  have HWS := Lib.hid (And.intro hW1 (And.intro hW0 (And.intro hT0 hT1)))
  have CP := Lib.hid (page_h HH.out.drew pg)
  have CG := Lib.hid (page_getq HH.out.drew pg sl)
  obtain ⟨V, hV⟩ : ∃ V, pgV l pg = V := ⟨_, rfl⟩
  rw [hV] at CP CG
  have x0 := hbT.cell 0
  have x1 := hbT.cell 1
  have HNE : Hid (T0 ≠ T1) := Lib.hid (by omega)
  clear h hbT hbR hb0 hs1 hW1 hW0 hT0 hT1 hV
  go_enter Try.func60, Try.ntmps60
  go_upto_region 1 with fail
  rw [HWS.out.1, HWS.out.2.1, HWS.out.2.2.1, HWS.out.2.2.2]
  go_region_held3 (fun w' => w'.cell? ⟨T0, 0, none⟩ = some (.int .i64 pg) ∧ w'.cell? ⟨T0, 1, none⟩ = some (.int .i64 sl)) (first | with_reducible exact blk_two HT9.out | with_reducible exact six_two HT9.out HNE.out | with_reducible exact ⟨x0, x1⟩ | go_keep)
    (first
      | (go_at_call 88; refine CP.out.mono ?_; rintro e w2 ⟨rfl, rfl⟩)
      | (go_at_call 26; refine CG.out.mono ?_; rintro e w9 ⟨r, a, b, p, s, Au, nu, cu, ok, rfl, hgr, hb9⟩; have HT9 := Lib.hid (Blk.below (show Blk W0.drew _ _ _ from HBT.out) hb9 (Blk.lt HBT.out)); have HR9 := Lib.hid (Blk.below (show Blk W0.drew _ _ _ from HBR.out) hb9 (Blk.lt HBR.out)); have q0 := HR9.out.cell 0; have q1 := HR9.out.cell 1; have q2 := HR9.out.cell 2; have q3 := HR9.out.cell 3; have q4 := HR9.out.cell 4; have q5 := HR9.out.cell 5; have p0 := HR9.out.frozen 0; have p1 := HR9.out.frozen 1; have p2 := HR9.out.frozen 2; have p3 := HR9.out.frozen 3; have p4 := HR9.out.frozen 4; have p5 := HR9.out.frozen 5))
  go_wp2_with fail
  have hs := Blk.set_ (Blk.set_ (Blk.set_ (Blk.set_ (Blk.set_ (Blk.set_ HR9.out 0 (.int .u64 r)) 1 (.int .u64 a)) 2 (.int .u64 b)) 3 (.int .i64 p)) 4 (.int .i64 s)) 5 (.slice Au nu cu)
  have ho : Only T1 w9 _ := ((((((Only.refl T1 w9).set_ 0 (.int .u64 r)).set_ 1 (.int .u64 a)).set_ 2 (.int .u64 b)).set_ 3 (.int .i64 p)).set_ 4 (.int .i64 s)).set_ 5 (.slice Au nu cu)
  refine bodyPost_ret (get7_ret hs rfl rfl) rfl ?_
  have hb1 : Below w.heap.size w W0.drew := ⟨HB0.out.os, HB0.out.tape, HB0.out.output, HB0.out.size, HB0.out.block⟩
  have hb2 := bel_trans hb1 hb9
  exact ⟨r, a, b, p, s, Au, nu, cu, ok, rfl, hgr, hb2.trans (ho.below hb2.size (by rw [HWS.out.2.2.1, ← HWS.out.2.2.2]; omega))⟩
end
theorem get_sq {w wl : World} {F : Nat → Prop} {H PL : Nat} {l : List PgE} (h : HF w wl F H PL l) (pg sl : Int) :
    Calls Try.prog 60 #[.pointer (some ⟨H, 0, none⟩), .agg #[.int .i64 pg, .int .i64 sl]] wl fun e w' => ∃ (r a b : Nat) (p s : Int) (Au : Option Addr) (nu cu : Nat) (ok : Bool), e = .returned (.tuple #[.agg #[.int .u64 r, .int .u64 a, .int .u64 b, .int .i64 p, .int .i64 s, .slice Au nu cu], .bool ok]) ∧ GetQ l pg sl p s ok ∧ Below wl.heap.size wl w' := by
  obtain ⟨A, c, M, Ar, cr, ha⟩ := h.ha
  exact get_hq ha pg sl
end Go.Proofs.Ythghnhcopmmmpaa.Hea
