/- PageStays: versions kept aside; what stays where one slot turns. -/
import Derived.Test.YtbpgjpopmohbmaaBuild
import Derived.Test.YtbpgjpopmohbmaaFillA
namespace Go.Proofs.Ytbpgjpopmohbmaa.Mem
open Go.RowKit Go.Proofs.Ytbpgjpopmohbmaa.Nums
set_option linter.unusedVariables false
set_option linter.unusedSimpArgs false
set_option maxRecDepth 100000
set_option maxHeartbeats 1000000
/-- the version of a slot -/
def verO (L : SL) (i : Int) : Option Ver := (atL L i).map Prod.fst
theorem verO_nat (L : SL) (i : Nat) : verO L (i : Int) = (L[i]?).join.map Prod.fst := by
  unfold verO atL
  rw [if_neg (by omega), show ((i : Nat) : Int).toNat = i by omega]
theorem verO_ins {L : SL} {st : Nat} {v : Ver} {i : Nat} (h : i ≠ nextL L) : verO (insS L st v).1 (i : Int) = verO L (i : Int) := by
  rw [verO_nat, verO_nat]
  have key : ∀ M : SL, nextL L ≤ M.length → (∀ x, (putL M (nextL L) x)[i]? = M[i]?) := fun M hM x => by rw [putL_get hM, if_neg h]
  unfold insS
  split
  · show ((putL _ _ _)[i]?).join.map Prod.fst = _
    rw [key _ (by rw [packL_len]; exact nextL_le L), packL_get]
    cases L[i]? with
    | none => rfl
    | some o => cases o <;> rfl
  · show ((putL _ _ _)[i]?).join.map Prod.fst = _
    rw [key _ (nextL_le L)]
theorem verO_new (L : SL) (st : Nat) (v : Ver) : verO (insS L st v).1 (nextL L : Int) = some v := by
  rw [verO_nat]
  obtain ⟨f, hf⟩ := insS_new L st v
  rw [hf]
  rfl
theorem verO_stamp {L : SL} {i : Nat} {j U : Int} {b : Nat} {p s : Int} (h : (i : Int) ≠ j) : verO (stampR L j b p s).2 (i : Int) = verO L (i : Int) := by
  unfold stampR
  split
  · cases ha : atL L j with
    | none => rfl
    | some x =>
      obtain ⟨k, rfl, hk⟩ := atL_some ha
      rw [verO_nat, verO_nat]
      show ((L.set k _)[i]?).join.map Prod.fst = _
      rw [set_get (List.getElem?_eq_some_iff.1 hk).1, if_neg (by omega)]
  · rfl
theorem verO_free {L L' : SL} {i : Nat} {j x : Int} (hf : FreeTo L j x L') (h : (i : Int) ≠ j) : verO L' (i : Int) = verO L (i : Int) := by
  rcases hf with ⟨_, _, rfl⟩ | ⟨v, f, k, h1, rfl, h3, rfl⟩
  · rfl
  · obtain ⟨q, rfl, hq⟩ := atL_some h1
    have hql := (List.getElem?_eq_some_iff.1 hq).1
    have h3' : IsTrim (L.set q none) k := h3
    rw [verO_nat, verO_nat]
    show (((L.set q none).take k)[i]?).join.map Prod.fst = _
    have hs : (L.set q none)[i]? = L[i]? := by rw [set_get hql, if_neg (by omega)]
    rw [List.getElem?_take]
    split
    · rw [hs]
    · by_cases hl : i < L.length
      · have := h3'.free i (by omega) (by rw [List.length_set]; exact hl)
        rw [← hs, this]
        rfl
      · rw [List.getElem?_eq_none (by omega)]
theorem flat_len {α : Type} (f : α → List Value) (n : Nat) (hf : ∀ a, (f a).length = n) : ∀ l : List α, (l.flatMap f).length = l.length * n
  | [] => by simp
  | a :: l => by
    show (f a ++ l.flatMap f).length = _
    rw [List.length_append, hf, flat_len f n hf l, List.length_cons, Nat.add_mul]
    omega
theorem flat_at {α : Type} (f : α → List Value) (n : Nat) (hf : ∀ a, (f a).length = n) : ∀ (l : List α) (i : Nat) (a : α), l[i]? = some a → ∀ j, j < n → (l.flatMap f)[i * n + j]? = (f a)[j]?
  | [], i, a, h, j, hj => by simp at h
  | y :: l, 0, a, h, j, hj => by
    simp at h; subst h
    show (f y ++ l.flatMap f)[0 * n + j]? = _
    rw [Nat.zero_mul, Nat.zero_add, List.getElem?_append_left (by rw [hf]; exact hj)]
  | y :: l, i + 1, a, h, j, hj => by
    show (f y ++ l.flatMap f)[(i + 1) * n + j]? = _
    rw [List.getElem?_append_right (by rw [hf, Nat.add_mul]; omega), hf, show (i + 1) * n + j - n = i * n + j by rw [Nat.add_mul]; omega]
    exact flat_at f n hf l i a (by simpa using h) j hj
abbrev Wt := Option Ver × Value
def wtC : Wt → List Value
  | (none, _) => [.int .u64 0, .int .u64 0, .int .u64 0, .int .i64 0, .int .i64 0, .slice none 0 0]
  | (some v, u) => [.int .u64 v.r, .int .u64 v.a, .int .u64 v.b, .int .i64 ((v.p : Int) - 1), .int .i64 ((v.s : Int) - 1), u]
theorem wtC_len (e : Wt) : (wtC e).length = 6 := by
  obtain ⟨o, u⟩ := e
  cases o <;> rfl
def wts (l : List Wt) : List Value := l.flatMap wtC
def bls (l : List Wt) : List Value := l.map fun e => .bool e.1.isSome
theorem wts_app (l : List Wt) (e : Wt) : wts (l ++ [e]) = wts l ++ wtC e := by simp [wts]
theorem bls_app (l : List Wt) (e : Wt) : bls (l ++ [e]) = bls l ++ [.bool e.1.isSome] := by simp [bls]
theorem infoTup : (Try.prog.info? 33).map (fun i => (i.zero, i.size, i.bytes)) = some (some zeroT, 6, 64) := by kernel_rfl
theorem infoBool : (Try.prog.info? 4).map (fun i => (i.zero, i.size, i.bytes)) = some (some (.bool false), 1, 1) := by kernel_rfl
section
variable {w : World} {ops : Array Oper} {rest : List Oper} {o : Oper} {a : Act} {Q : Exit → Act → World → Prop}
theorem wpl_app_tup (hgd : o.guard = none) (s x : Operand)
    (ho : o.op = .call { callee := .builtin .append, args := #[s, x], argTypes := #[64, 64] })
    (base : Nat) (v : Value) (n : Nat) (xs : List Value) (hs : a.eval s = v) (hown : w.ownsRow base 33 6 v n xs)
    (B : Nat) (y : Value) (m : Nat) (news : List Value) (hy : a.eval x = y) (hx : Lies w B 6 y m news) (h1 : ∀ u ∈ news, u.oneCell' = true)
    (hbytes : n + m ≤ 1000000) (hbase : base ≤ w.heap.size)
    (h : ∀ v' w', w'.ownsRow base 33 6 v' (n + m) (xs ++ news) → Kin w w' v v' → wpList Try.prog ops Q rest (a.put o.dst v') w') : wpList Try.prog ops Q (o :: rest) a w := by
  obtain ⟨i, hi, hz0, hz1, hz2⟩ := info_part infoTup
  exact wpList_plain hgd fun _ hK => wp_append_mem w s x _ ho base 33 i _ 6 64 Try.underlying64 hi hz0 hz1 hz2 rfl (by omega) v n xs hs hown B y m news hy hx h1 (by unfold maxLen; omega) (by omega) hbase fun v' w' h2 h3 => hK _ _ (h v' w' h2 h3)
theorem wpl_app_bool (hgd : o.guard = none) (s x : Operand)
    (ho : o.op = .call { callee := .builtin .append, args := #[s, x], argTypes := #[65, 65] })
    (base : Nat) (v : Value) (n : Nat) (xs : List Value) (hs : a.eval s = v) (hown : w.ownsRow base 4 1 v n xs)
    (B : Nat) (y : Value) (m : Nat) (news : List Value) (hy : a.eval x = y) (hx : Lies w B 1 y m news) (h1 : ∀ u ∈ news, u.oneCell' = true)
    (hbytes : n + m ≤ 1000000) (hbase : base ≤ w.heap.size)
    (h : ∀ v' w', w'.ownsRow base 4 1 v' (n + m) (xs ++ news) → Kin w w' v v' → wpList Try.prog ops Q rest (a.put o.dst v') w') : wpList Try.prog ops Q (o :: rest) a w := by
  obtain ⟨i, hi, hz0, hz1, hz2⟩ := info_part infoBool
  exact wpList_plain hgd fun _ hK => wp_append_mem w s x _ ho base 4 i _ 1 1 Try.underlying65 hi hz0 hz1 hz2 rfl (by omega) v n xs hs hown B y m news hy hx h1 (by unfold maxLen; omega) (by omega) hbase fun v' w' h2 h3 => hK _ _ (h v' w' h2 h3)
end
/-- what is kept aside: versions, whether they were there; L: the slots that they are of -/
structure SI (w wl : World) (P : Nat) (L : SL) (l : List Wt) (Aw : Option Addr) (cw : Nat) (At : Option Addr) (ct : Nat) : Prop where
  pg : ∃ X, Pg wl P X
  was : wl.ownsRow w.heap.size 33 6 (.slice Aw l.length cw) l.length (wts l)
  the : wl.ownsRow w.heap.size 4 1 (.slice At l.length ct) l.length (bls l)
  dat : ∀ (i : Nat) (v : Ver) (u : Value), l[i]? = some (some v, u) → wl.ownsRow w.heap.size 5 1 u v.d.length (u8s v.d)
  is : ∀ (i : Nat) (e : Wt), l[i]? = some e → e.1 = verO L (i : Int)
  bel : Below w.heap.size w wl
  ge : w.heap.size ≤ P
section
variable {w wl w' : World} {P : Nat} {L : SL} {l : List Wt} {Aw At : Option Addr} {cw ct : Nat}
theorem SI.below (h : SI w wl P L l Aw cw At ct) (hb : Below wl.heap.size wl w') : SI w w' P L l Aw cw At ct := by
  obtain ⟨X, hX⟩ := h.pg
  have k : ∀ {e : TypeId} {sz n : Nat} {v : Value} {xs : List Value}, wl.ownsRow w.heap.size e sz v n xs → w'.ownsRow w.heap.size e sz v n xs := fun hv => own_keep hv fun k hk => hb.block k (hv.lt k hk).2
  exact ⟨⟨X, Blk.below hX.1 hb (Blk.lt hX.1), hX.2⟩, k h.was, k h.the, fun i v u hu => k (h.dat i v u hu), h.is, h.bel.trans (hb.mono h.bel.size), h.ge⟩
/-- the page alone has turned -/
theorem SI.only (h : SI w wl P L l Aw cw At ct) (ho : Only P wl w') (hp : ∃ X, Pg w' P X) : SI w w' P L l Aw cw At ct := by
  obtain ⟨X, hX⟩ := h.pg
  have k : ∀ {e : TypeId} {sz n : Nat} {v : Value} {xs : List Value}, e ≠ 113 → wl.ownsRow w.heap.size e sz v n xs → w'.ownsRow w.heap.size e sz v n xs := fun hne hv => own_keep hv fun k hk => ho.block k (hv.lt k hk).2 (fun e => own_blk_ne hv hX.1 hne (by rw [hk, e]))
  exact ⟨hp, k (by decide) h.was, k (by decide) h.the, fun i v u hu => k (by decide) (h.dat i v u hu), h.is, h.bel.trans (ho.below h.bel.size h.ge), h.ge⟩
/-- a block of which it is known that it turns: the own one of a slice of elements e -/
theorem kin_keep {e e2 : TypeId} {sz sz2 n n2 B B2 : Nat} {v v' u : Value} {xs ys : List Value} (hk : Kin wl w' v v') (hv : wl.ownsRow B e sz v n xs) (hu : wl.ownsRow B2 e2 sz2 u n2 ys) (hne : e2 ≠ e) : w'.ownsRow B2 e2 sz2 u n2 ys :=
  own_keep hu fun k hk2 => hk.1.block k (hu.lt k hk2).2 (fun hv2 => by
    rcases hv.2 with ⟨q1, _⟩ | ⟨g, cap, cur, q1, _, q3, _⟩
    · rw [q1] at hv2; simp [Value.ownBlock] at hv2
    · rw [q1] at hv2
      have : g = k ∨ k = g := by simp [Value.ownBlock] at hv2; first | exact .inl hv2 | exact .inr hv2
      rcases this with rfl | rfl
      · exact own_blk_ne hu q3 hne hk2
      · exact own_blk_ne hu q3 hne hk2)
theorem kin_pg {e : TypeId} {sz n B : Nat} {v v' : Value} {xs : List Value} {X : List UInt8} (hk : Kin wl w' v v') (hv : wl.ownsRow B e sz v n xs) (hp : Pg wl P X) (hne : e ≠ 113) : Pg w' P X :=
  ⟨(hk.1.block P (Blk.lt hp.1) (Ne.symm (own_blk_ne hv hp.1 hne))).trans hp.1, hp.2⟩
/-- one more kept aside -/
theorem SI.more {w2 : World} (h : SI w wl P L l Aw cw At ct) {e : Wt} {Aw' At' : Option Addr} {cw' ct' : Nat} (he : e.1 = verO L (l.length : Int)) (hd : ∀ v u, e = (some v, u) → wl.ownsRow w.heap.size 5 1 u v.d.length (u8s v.d))
    {o1 o2 : Obj} {w1 w3 : World} (h1 : w1 = wl.alloc o1)
    (hw : w2.ownsRow w.heap.size 33 6 (.slice Aw' (l.length + 1) cw') (l.length + 1) (wts l ++ wtC e)) (hk1 : Kin w1 w2 (.slice Aw l.length cw) (.slice Aw' (l.length + 1) cw'))
    (h3 : w3 = w2.alloc o2) (ht : w'.ownsRow w.heap.size 4 1 (.slice At' (l.length + 1) ct') (l.length + 1) (bls l ++ [.bool e.1.isSome])) (hk2 : Kin w3 w' (.slice At l.length ct) (.slice At' (l.length + 1) ct')) :
    SI w w' P L (l ++ [e]) Aw' cw' At' ct' := by
  obtain ⟨X, hX⟩ := h.pg
  have a1 : Below wl.heap.size wl w1 := by rw [h1]; exact bel_alloc _ _
  have s1 := h.below a1
  have hl : (l ++ [e]).length = l.length + 1 := by simp
  have hX1 : Pg w1 P X := ⟨Blk.below hX.1 a1 (Blk.lt hX.1), hX.2⟩
  have hX2 := kin_pg hk1 s1.was hX1 (by decide)
  have the2 := kin_keep hk1 s1.was s1.the (by decide)
  have a3 : Below w2.heap.size w2 w3 := by rw [h3]; exact bel_alloc _ _
  have k3 : ∀ {e : TypeId} {sz n : Nat} {v : Value} {xs : List Value}, w2.ownsRow w.heap.size e sz v n xs → w3.ownsRow w.heap.size e sz v n xs := fun hv => own_keep hv fun k hk => a3.block k (hv.lt k hk).2
  have hX3 : Pg w3 P X := ⟨Blk.below hX2.1 a3 (Blk.lt hX2.1), hX2.2⟩
  have hbel1 : Below w.heap.size w w2 := s1.bel.trans (hk1.below s1.bel.size (fun k hk => (s1.was.lt k hk).1))
  have hbel3 : Below w.heap.size w w3 := hbel1.trans (a3.mono hbel1.size)
  refine ⟨⟨X, kin_pg hk2 (k3 the2) hX3 (by decide)⟩, ?_, ?_, fun i v u hu => ?_, fun i e' hu => ?_, hbel3.trans (hk2.below hbel3.size (fun k hk => ((k3 the2).lt k hk).1)), h.ge⟩
  · rw [hl, wts_app]
    exact kin_keep hk2 (k3 the2) (k3 hw) (by decide)
  · rw [hl, bls_app]
    exact ht
  · have hold : wl.ownsRow w.heap.size 5 1 u v.d.length (u8s v.d) := by
      by_cases hi : i < l.length
      · rw [List.getElem?_append_left hi] at hu
        exact h.dat i v u hu
      · rw [List.getElem?_append_right (by omega)] at hu
        cases hj : i - l.length with
        | zero => rw [hj] at hu; simp at hu; exact hd v u hu
        | succ k => rw [hj] at hu; simp at hu
    have q1 : w1.ownsRow w.heap.size 5 1 u v.d.length (u8s v.d) := own_keep hold fun k hk => a1.block k (hold.lt k hk).2
    exact kin_keep hk2 (k3 the2) (k3 (kin_keep hk1 s1.was q1 (by decide))) (by decide)
  · by_cases hi : i < l.length
    · rw [List.getElem?_append_left hi] at hu
      exact h.is i e' hu
    · rw [List.getElem?_append_right (by omega)] at hu
      cases hj : i - l.length with
      | zero =>
        rw [hj] at hu
        simp at hu
        subst hu
        rw [he, show l.length = i by omega]
      | succ k => rw [hj] at hu; simp at hu
/-- the six cells of one kept aside, and whether it was there -/
theorem SI.at_ (h : SI w wl P L l Aw cw At ct) {i : Nat} {e : Wt} (he : l[i]? = some e) : ∃ g g2, Aw = some ⟨g, 0, none⟩ ∧ At = some ⟨g2, 0, none⟩ ∧ (∀ j, j < 6 → wl.cell? ⟨g, i * 6 + j, none⟩ = (wtC e)[j]?) ∧ wl.cell? ⟨g2, i, none⟩ = some (.bool e.1.isSome) ∧ l.length ≤ cw ∧ l.length ≤ ct := by
  have hi := (List.getElem?_eq_some_iff.1 he).1
  rcases h.was.2 with ⟨_, h2⟩ | ⟨g, cap, cur, hv, hb, hg, hn, hm, hs, ht⟩
  · exact absurd h2 (by omega)
  rcases h.the.2 with ⟨_, h2⟩ | ⟨g2, cap2, cur2, hv2, hb2, hg2, hn2, hm2, hs2, ht2⟩
  · exact absurd h2 (by omega)
  injection hv with q1 _ q3
  injection hv2 with q4 _ q6
  subst q1 q3 q4 q6
  refine ⟨g, g2, rfl, rfl, fun j hj => ?_, ?_, hn, hn2⟩
  · have h1 := flat_at wtC 6 wtC_len l i e he j hj
    rw [Blk.cell (show Blk wl g _ cur from hg), ← h1]
    show _ = (wts l)[i * 6 + j]?
    rw [← ht, List.getElem?_take, if_pos (by omega), Array.getElem?_toList]
  · have h1 : (bls l)[i]? = some (.bool e.1.isSome) := by unfold bls; rw [List.getElem?_map, he]; rfl
    rw [Blk.cell (show Blk wl g2 _ cur2 from hg2), ← h1, ← ht2, List.getElem?_take, if_pos (by omega), Array.getElem?_toList]
end
end Go.Proofs.Ytbpgjpopmohbmaa.Mem
