/- SnapRests: appends of snapshots, of tuples. -/
import Derived.Test.YtajkedckleoboaaSnapI
namespace Go.Proofs.Ytajkedckleoboaa.Clg
open Go.ChangeMaps Go.MapKept Go.RowKit Go.Proofs.Ytajkedckleoboaa.Nums Go.Proofs.Ytajkedckleoboaa.Mem
set_option linter.unusedVariables false
set_option linter.unusedSimpArgs false
set_option maxRecDepth 100000
theorem infoS : (Try.prog.info? 76).map (fun i => (i.zero, i.size, i.bytes)) = some (some (.agg #[.int .u64 0, .int .u64 0, .int .u64 0, .slice none 0 0]), 4, 48) := by kernel_rfl
theorem infoT : (Try.prog.info? 71).map (fun i => (i.zero, i.size, i.bytes)) = some (some (.agg #[.int .u64 0, .int .u64 0, .int .u64 0, .int .i64 0, .int .i64 0, .slice none 0 0]), 6, 64) := by kernel_rfl
def OwnS (w : World) (B : Nat) (v : Value) (n : Nat) (xs : List Value) : Prop := w.ownsRow B 76 4 v n xs
def OwnT (w : World) (B : Nat) (v : Value) (n : Nat) (xs : List Value) : Prop := w.ownsRow B 71 6 v n xs
theorem OwnS.alloc {w : World} {B : Nat} {v : Value} {n : Nat} {xs : List Value} (h : OwnS w B v n xs) (o : Obj) : OwnS (w.alloc o) B v n xs := World.ownsRow.alloc h o
theorem OwnT.alloc {w : World} {B : Nat} {v : Value} {n : Nat} {xs : List Value} (h : OwnT w B v n xs) (o : Obj) : OwnT (w.alloc o) B v n xs := World.ownsRow.alloc h o
theorem wpl_app_s {w : World} {ops : Array Oper} {rest : List Oper} {o : Oper} {a : Act} {Q : Exit → Act → World → Prop} (hgd : o.guard = none) (s x : Operand)
    (ho : o.op = .call { callee := .builtin .append, args := #[s, x], argTypes := #[62, 62] })
    (base : Nat) (v : Value) (n : Nat) (xs : List Value) (hs : a.eval s = v) (hown : OwnS w base v n xs)
    (B : Nat) (y : Value) (m : Nat) (news : List Value) (hy : a.eval x = y) (hx : Lies w B 4 y m news) (h1 : ∀ u ∈ news, u.oneCell' = true)
    (hbytes : n + m ≤ 1000000) (hbase : base ≤ w.heap.size)
    (h : ∀ v' w', OwnS w' base v' (n + m) (xs ++ news) → Kin w w' v v' → wpList Try.prog ops Q rest (a.put o.dst v') w') : wpList Try.prog ops Q (o :: rest) a w := by
  obtain ⟨i, hi, hz0, hz1, hz2⟩ := info_parts infoS
  exact wpList_plain hgd fun _ hK => wp_append_mem w s x _ ho base 76 i _ 4 48 Try.underlying62 hi hz0 hz1 hz2 rfl (by omega) v n xs hs hown B y m news hy hx h1 (by unfold maxLen; omega) (by omega) hbase fun v' w' h2 h3 => hK _ _ (h v' w' h2 h3)
theorem wpl_app_t {w : World} {ops : Array Oper} {rest : List Oper} {o : Oper} {a : Act} {Q : Exit → Act → World → Prop} (hgd : o.guard = none) (s x : Operand)
    (ho : o.op = .call { callee := .builtin .append, args := #[s, x], argTypes := #[91, 91] })
    (base : Nat) (v : Value) (n : Nat) (xs : List Value) (hs : a.eval s = v) (hown : OwnT w base v n xs)
    (B : Nat) (y : Value) (m : Nat) (news : List Value) (hy : a.eval x = y) (hx : Lies w B 6 y m news) (h1 : ∀ u ∈ news, u.oneCell' = true)
    (hbytes : n + m ≤ 1000000) (hbase : base ≤ w.heap.size)
    (h : ∀ v' w', OwnT w' base v' (n + m) (xs ++ news) → Kin w w' v v' → wpList Try.prog ops Q rest (a.put o.dst v') w') : wpList Try.prog ops Q (o :: rest) a w := by
  obtain ⟨i, hi, hz0, hz1, hz2⟩ := info_parts infoT
  exact wpList_plain hgd fun _ hK => wp_append_mem w s x _ ho base 71 i _ 6 64 Try.underlying91 hi hz0 hz1 hz2 rfl (by omega) v n xs hs hown B y m news hy hx h1 (by unfold maxLen; omega) (by omega) hbase fun v' w' h2 h3 => hK _ _ (h v' w' h2 h3)
theorem sv_one (s : Sv) : ∀ u ∈ s.cells, u.oneCell' = true := by
  intro u hu
  unfold Sv.cells at hu
  simp at hu
  rcases hu with rfl | rfl | rfl | rfl <;> rfl
def tup (t : Nat × Nat) : List Value := [.int .u64 0, .int .u64 (t.1 : Int), .int .u64 (t.2 : Int), .int .i64 0, .int .i64 0, .slice none 0 0]
def tups (l : List (Nat × Nat)) : List Value := l.flatMap tup
theorem tups_len (l : List (Nat × Nat)) : (tups l).length = l.length * 6 := by
  induction l with
  | nil => rfl
  | cons o l ih => show (tup o ++ tups l).length = _; rw [List.length_append, ih, List.length_cons]; show 6 + _ = _; omega
theorem tups_app (a b : List (Nat × Nat)) : tups (a ++ b) = tups a ++ tups b := by simp [tups]
theorem tups_at : ∀ (l : List (Nat × Nat)) (k : Nat) (o : Nat × Nat), l[k]? = some o → ∀ j, j < 6 → (tups l)[k * 6 + j]? = (tup o)[j]?
  | [], k, o, h, j, hj => by simp at h
  | y :: l, 0, o, h, j, hj => by
    simp at h; subst h
    show (tup y ++ tups l)[0 * 6 + j]? = _
    rw [Nat.zero_mul, Nat.zero_add, List.getElem?_append_left (show j < (tup y).length from hj)]
  | y :: l, k + 1, o, h, j, hj => by
    show (tup y ++ tups l)[(k + 1) * 6 + j]? = _
    have e : (tup y).length = 6 := rfl
    rw [List.getElem?_append_right (by omega), e, show (k + 1) * 6 + j - 6 = k * 6 + j by omega]
    exact tups_at l k o (by simpa using h) j hj
theorem tup_one (t : Nat × Nat) : ∀ u ∈ tup t, u.oneCell' = true := by
  intro u hu
  unfold tup at hu
  simp at hu
  rcases hu with rfl | rfl | rfl | rfl | rfl | rfl <;> rfl
theorem tup_cells {w : World} {A : Option Addr} {n c : Nat} {l : List (Nat × Nat)} (h : Sl w w.heap.size 6 A n c (tups l)) {w' : World} (hb : Below w.heap.size w w') {k : Nat} {o : Nat × Nat} (ho : l[k]? = some o) (hn : l.length = n) : ∃ ad, A = some ad ∧
    w'.cell? (ad.add (k * 6)) = some (.int .u64 0) ∧ w'.cell? ⟨(ad.add (k * 6)).block, (ad.add (k * 6)).off + 1, none⟩ = some (.int .u64 (o.1 : Int)) ∧ w'.cell? ⟨(ad.add (k * 6)).block, (ad.add (k * 6)).off + 2, none⟩ = some (.int .u64 (o.2 : Int)) ∧ w'.cell? ⟨(ad.add (k * 6)).block, (ad.add (k * 6)).off + 3, none⟩ = some (.int .i64 0) ∧ w'.cell? ⟨(ad.add (k * 6)).block, (ad.add (k * 6)).off + 4, none⟩ = some (.int .i64 0) ∧ w'.cell? ⟨(ad.add (k * 6)).block, (ad.add (k * 6)).off + 5, none⟩ = some (.slice none 0 0) := by
  have hk := (List.getElem?_eq_some_iff.1 ho).1
  obtain ⟨ad, hA, hat⟩ := h.at_ (by omega)
  have key : ∀ j y, (tup o)[j]? = some y → j < 6 → w'.cell? (ad.add (k * 6 + j)) = some y := fun j y hy hj => (hat.below hb).2 (k * 6 + j) y (by rw [tups_at l k o ho j hj]; exact hy)
  have e : ∀ j y, (tup o)[j + 1]? = some y → j + 1 < 6 → w'.cell? ⟨(ad.add (k * 6)).block, (ad.add (k * 6)).off + (j + 1), none⟩ = some y := fun j y hy hj => by
    rw [← off_succ]
    exact key _ _ hy hj
  exact ⟨ad, hA, key 0 _ rfl (by omega), e 0 _ rfl (by omega), e 1 _ rfl (by omega), e 2 _ rfl (by omega), e 3 _ rfl (by omega), e 4 _ rfl (by omega)⟩
theorem AL.turnK {w0 w w' : World} {K : Nat → Prop} {P f : Nat} {S : List Nat} (h : AL w0 w K P f S) (ht : Turn K w w') (hK : ∀ g, K g → w0.heap.size ≤ g) : AL w0 w' (New K w w') P f S := by
  obtain ⟨F, h1, h2, h3, h4⟩ := h
  refine ⟨F, h1.turn ht (fun g hF hg => (h3 g hg).1 hF), h2, fun g hg => ?_, h4.trans (ht.below h4.size hK)⟩
  rcases hg with hg | hg
  · exact ⟨(h3 g hg).1, Nat.lt_of_lt_of_le (h3 g hg).2 ht.size⟩
  · exact ⟨fun hF => by have := h1.lt g hF; omega, hg.2⟩
/-- all that SnapRests keeps between its steps -/
structure RS (w0 w : World) (K : Nat → Prop) (P M : Nat) (S : List Nat) (sv : Nat → Sv) (D : DataW Value) (k : Nat) (dl : List (Nat × Nat)) (A : Option Addr) (c : Nat) : Prop where
  al : AL w0 w K P 1 S
  ok : ∀ s ∈ S, 1 ≤ s ∧ s ≤ 3
  kge : ∀ g, K g → w0.heap.size ≤ g
  kM : K M
  hd : HeldD w M k D
  rep : RepL D S sv
  ot : OwnT w w0.heap.size (.slice A dl.length c) dl.length (tups dl)
  kA : ∀ g, (Value.slice A dl.length c).ownBlock = some g → K g
  inv : InvR S (fun x => (sv x).xmin) dl
section
variable {w0 w w' : World} {K : Nat → Prop} {P M k c : Nat} {S : List Nat} {sv : Nat → Sv} {D : DataW Value} {dl : List (Nat × Nat)} {A : Option Addr}
theorem RS.below (h : RS w0 w K P M S sv D k dl A c) (hb : Below w.heap.size w w') : RS w0 w' K P M S sv D k dl A c := by
  obtain ⟨h1, h2⟩ := h.al.below hb
  exact ⟨h1, h.ok, h.kge, h.kM, h.hd.keep (h2 M h.kM), h.rep, own_keep h.ot fun g hg => h2 g (h.kA g hg), h.kA, h.inv⟩
theorem RS.end_ (h : RS w0 w K P M S sv D k dl A c) {x t : Nat} {w1 : World} (ha : AL w0 w1 K P 1 (endS 1 S x t)) (hk : KeepK K w w1) (ht : t = 2 ∨ t = 3) (hm : HeldD w' M k (D.del (.int .u64 (x : Int)))) (hT : w1.mapTurned w' M) : RS w0 w' K P M (endS 1 S x t) sv (D.del (.int .u64 (x : Int))) (k + 1) dl A c := by
  have hg := hT.grown
  refine ⟨ha.mapped h.kM (h.kge M h.kM) hT, st_ok_end h.ok 1 x (by omega), h.kge, h.kM, World.ownsMap.mono hm (Nat.le_succ k), h.rep.del x (by omega), own_keep (own_keep h.ot fun g hg => hk g (h.kA g hg)) fun g hg' => ?_, h.kA, h.inv.end_ x t (by omega)⟩
  exact hg.block g (by obtain ⟨F, _, _, h3, _⟩ := ha; exact (h3 g (h.kA g hg')).2) (fun e => own_notM h.hd h.ot (by rw [hg', e]))
theorem RS.begin_ (h : RS w0 w K P M S sv D k dl A c) {w1 w2 : World} (ha : AL w0 w1 K P 1 (S ++ [1])) (hk : KeepK K w w1) (hb : Below w1.heap.size w1 w2) {s : Sv} (hs : s.xmin = xminOf 1 (S ++ [1]) (1 + S.length)) (hm : HeldD w' M (k + 1) (D.put (.int .u64 ((1 + S.length : Nat) : Int)) (.held s.val))) (hT : w2.mapTurned w' M) :
    RS w0 w' K P M (S ++ [1]) (svUp sv (1 + S.length) s) (D.put (.int .u64 ((1 + S.length : Nat) : Int)) (.held s.val)) (k + 1) dl A c := by
  have hg := hT.grown
  obtain ⟨ha2, hk2⟩ := ha.below hb
  refine ⟨ha2.mapped h.kM (h.kge M h.kM) hT, st_ok_snoc h.ok, h.kge, h.kM, hm, h.rep.put s, own_keep (own_keep (own_keep h.ot fun g hg => hk g (h.kA g hg)) fun g hg => hk2 g (h.kA g hg)) fun g hg' => ?_, h.kA, h.inv.begin_ (by show (svUp sv _ s _).xmin = _; unfold svUp; rw [if_pos rfl]; exact hs) (fun y hy => by show (svUp sv _ s y).xmin = _; unfold svUp; rw [if_neg hy])⟩
  exact hg.block g (by obtain ⟨F, _, _, h3, _⟩ := ha2; exact (h3 g (h.kA g hg')).2) (fun e => own_notM h.hd h.ot (by rw [hg', e]))
/-- one more is dead -/
theorem RS.more (h : RS w0 w K P M S sv D k dl A c) (hS : S.length < 59) {a b : Nat} (hd : deadB 1 S a b (hzOf (1 + S.length) ((liveL S 60).map fun x => (sv x).xmin)) = true) {o : Obj} {v : Value} (ho : OwnT w' w0.heap.size v (dl.length + 1) (tups dl ++ tup (a, b))) (hk : Kin (w.alloc o) w' (.slice A dl.length c) v) :
    ∃ K' A' c', v = .slice A' (dl.length + 1) c' ∧ RS w0 w' K' P M S sv D k (dl ++ [(a, b)]) A' c' := by
  obtain ⟨A', c', rfl, _⟩ := Sl.of_own ho
  have hT : Turn K w w' := (Turn.of_below (bel_alloc w o)).kin hk (fun g hg => .inl (h.kA g hg))
  have hl : (dl ++ [(a, b)]).length = dl.length + 1 := by simp
  have hMlt : M < w.heap.size := by obtain ⟨F, _, _, h3, _⟩ := h.al; exact (h3 M h.kM).2
  refine ⟨New K w w', A', c', rfl, h.al.turnK hT h.kge, h.ok, fun g hg => ?_, .inl h.kM, h.hd.keep ((hk.1.block M (by rw [size_alloc]; omega) (Ne.symm (own_notM h.hd h.ot))).trans (Below.heap_alloc w o M hMlt)), h.rep, ?_, fun g hg => ?_, h.inv.more hS hd⟩
  · rcases hg with hg | hg
    · exact h.kge g hg
    · have := h.al.bel.size; omega
  · rw [hl, tups_app]
    exact ho
  · rw [hl] at hg
    have hlt := (ho.lt g hg).2
    rcases hk.2 with e | ⟨g', e, hg'⟩
    · exact .inl (h.kA g (e.symm.trans hg))
    · have e2 := e.symm.trans hg
      injection e2 with e2
      rw [size_alloc] at hg'
      exact .inr ⟨by omega, hlt⟩
end
end Go.Proofs.Ytajkedckleoboaa.Clg
