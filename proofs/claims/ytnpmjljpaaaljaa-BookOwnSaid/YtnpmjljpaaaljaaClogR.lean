/- lapidaryref09: its log's memory; New, Begin, State, End, Next. -/
import Derived.Test.YtnpmjljpaaaljaaClogF
namespace Go.Proofs.Ytnpmjljpaaaljaa.Clg
open Go.ChangeMaps Go.MapKept Go.RowKit Go.Proofs.Ytnpmjljpaaaljaa.Nums Go.Proofs.Ytnpmjljpaaaljaa.Mem
set_option linter.unusedVariables false
set_option linter.unusedSimpArgs false
set_option maxRecDepth 100000
attribute [local irreducible] wpQuiet
theorem infoI : (Try.prog.info? 3).map (fun i => (i.zero, i.size, i.bytes)) = some (some (.int .i64 0), 1, 8) := by kernel_rfl
def nats (l : List Nat) : List Value := l.map fun x : Nat => Value.int .i64 (x : Int)
theorem nats_len (l : List Nat) : (nats l).length = l.length := by simp [nats]
theorem nats_at {l : List Nat} {k x : Nat} (h : l[k]? = some x) : (nats l)[k]? = some (.int .i64 (x : Int)) := by simp [nats, h]
theorem nats_app (a b : List Nat) : nats (a ++ b) = nats a ++ nats b := by simp [nats]
def OwnI (w : World) (B : Nat) (v : Value) (n : Nat) (xs : List Value) : Prop := w.ownsRow B 3 1 v n xs
theorem OwnI.alloc {w : World} {B : Nat} {v : Value} {n : Nat} {xs : List Value} (h : OwnI w B v n xs) (o : Obj) : OwnI (w.alloc o) B v n xs := World.ownsRow.alloc h o
theorem own_eqI {w : World} {B : Nat} {v : Value} {n n' : Nat} {xs xs' : List Value} (h : OwnI w B v n xs) (hn : n = n') (hx : xs = xs') : OwnI w B v n' xs' := by subst hn hx; exact h
theorem wpl_app_i {w : World} {ops : Array Oper} {rest : List Oper} {o : Oper} {a : Act} {Q : Exit → Act → World → Prop} (hgd : o.guard = none) (s x : Operand)
    (ho : o.op = .call { callee := .builtin .append, args := #[s, x], argTypes := #[160, 160] })
    (base : Nat) (v : Value) (n : Nat) (xs : List Value) (hs : a.eval s = v) (hown : OwnI w base v n xs)
    (B : Nat) (y : Value) (m : Nat) (news : List Value) (hy : a.eval x = y) (hx : Lies w B 1 y m news) (h1 : ∀ u ∈ news, u.oneCell' = true)
    (hbytes : n + m ≤ 10000000000000) (hbase : base ≤ w.heap.size)
    (h : ∀ v' w', OwnI w' base v' (n + m) (xs ++ news) → Kin w w' v v' → wpList Try.prog ops Q rest (a.put o.dst v') w') : wpList Try.prog ops Q (o :: rest) a w := by
  obtain ⟨i, hi, hz0, hz1, hz2⟩ := info_parts infoI
  exact wpList_plain hgd fun _ hK => wp_append_mem w s x _ ho base 3 i _ 1 8 Try.underlying160 hi hz0 hz1 hz2 rfl (by omega) v n xs hs hown B y m news hy hx h1 (by unfold maxLen; omega) (by omega) hbase fun v' w' h2 h3 => hK _ _ (h v' w' h2 h3)
structure RL (w : World) (F : Nat → Prop) (Q f : Nat) (S : List Nat) (A : Option Addr) (c : Nat) : Prop where
  blk : Blk w Q 162 #[.int .u64 (f : Int), .slice A S.length c]
  own : OwnI w 0 (.slice A S.length c) S.length (nats S)
  f1 : 1 ≤ f
  top : f + S.length ≤ 1099511627777
  fQ : F Q
  fA : ∀ g, (Value.slice A S.length c).ownBlock = some g → F g
  lt : ∀ g, F g → g < w.heap.size
def RF (w : World) (F : Nat → Prop) (Q f : Nat) (S : List Nat) : Prop := ∃ A c, RL w F Q f S A c
section
variable {w w' : World} {F G : Nat → Prop} {Q f c : Nat} {S : List Nat} {A : Option Addr}
theorem RL.keep (h : RL w F Q f S A c) (hk : ∀ g, F g → w'.heap[g]? = w.heap[g]?) (hs : w.heap.size ≤ w'.heap.size) : RL w' F Q f S A c :=
  ⟨(hk Q h.fQ).trans h.blk, own_keep h.own fun g hg => hk g (h.fA g hg), h.f1, h.top, h.fQ, h.fA, fun g hg => Nat.lt_of_lt_of_le (h.lt g hg) hs⟩
theorem RL.more (h : RL w F Q f S A c) (hG : ∀ g, F g → G g) (hl : ∀ g, G g → g < w.heap.size) : RL w G Q f S A c :=
  ⟨h.blk, h.own, h.f1, h.top, hG _ h.fQ, fun g hg => hG g (h.fA g hg), hl⟩
theorem RF.keep (h : RF w F Q f S) (hk : ∀ g, F g → w'.heap[g]? = w.heap[g]?) (hs : w.heap.size ≤ w'.heap.size) : RF w' F Q f S := by
  obtain ⟨A, c, h⟩ := h; exact ⟨A, c, h.keep hk hs⟩
theorem RF.lt (h : RF w F Q f S) : ∀ g, F g → g < w.heap.size := by
  obtain ⟨A, c, h⟩ := h; exact h.lt
theorem RF.below (h : RF w F Q f S) (hb : Below w.heap.size w w') : RF w' F Q f S := h.keep (fun g hg => hb.block g (h.lt g hg)) hb.size
theorem RF.turn (h : RF w F Q f S) (ho : Turn G w w') (hG : ∀ g, F g → ¬ G g) : RF w' F Q f S := h.keep (fun g hg => ho.block g (h.lt g hg) (hG g hg)) ho.size
theorem RF.alloc (h : RF w F Q f S) (o : Obj) : RF (w.alloc o) F Q f S := h.below (bel_alloc w o)
theorem RF.drew (h : RF w F Q f S) : RF w.drew F Q f S := h.keep (fun _ _ => rfl) (Nat.le_refl _)
theorem RF.drewN (h : RF w F Q f S) (m : Nat) : RF (w.drewN m) F Q f S := h.keep (fun _ _ => rfl) (Nat.le_refl _)
theorem RL.sl (h : RL w F Q f S A c) : Sl w w.heap.size 1 A S.length c (nats S) := by
  obtain ⟨A', c', e, hs⟩ := Sl.of_own h.own
  injection e with e1 _ e2
  subst e1 e2
  exact hs
theorem RL.le (h : RL w F Q f S A c) : S.length ≤ c ∧ c ≤ maxLen := ⟨h.sl.le, h.sl.cap⟩
theorem RL.at_ (h : RL w F Q f S A c) {i s : Nat} (hi : S[i]? = some s) : ∃ g, A = some ⟨g, 0, none⟩ ∧ w.cell? ⟨g, i, none⟩ = some (.int .i64 (s : Int)) ∧ w.frozen? ⟨g, i, none⟩ = false := by
  have hl := (List.getElem?_eq_some_iff.1 hi).1
  rcases h.own.2 with ⟨_, h0⟩ | ⟨g, cap, cur, hv, hb, hg, hc, hm, hs, ht⟩
  · omega
  · injection hv with h1 _ h3
    subst h1 h3
    have hb' : Blk w g 3 cur := hg
    refine ⟨g, rfl, ?_, hb'.frozen i⟩
    have := nats_at hi
    rw [← ht, List.getElem?_take, if_pos (by omega), Array.getElem?_toList] at this
    rw [hb'.cell]
    exact this
theorem rnext_any (h : RF w F Q f S) : Calls Try.prog 51 #[.pointer (some ⟨Q, 0, none⟩)] w fun e w' => e = .returned (.int .u64 ((f + S.length : Nat) : Int)) ∧ ∃ m, w' = w.drewN m := by
  obtain ⟨A, c, h⟩ := h
  have x0 := h.blk.cell 0
  have x1 := h.blk.cell 1
  have hle := h.top
  have hc := h.le
  unfold maxLen at hc
  obtain ⟨n, hn⟩ : ∃ n, S.length = n := ⟨_, rfl⟩
  rw [hn] at x1 hle hc
  rw [hn]
  clear h hn
  go_enter Try.func51, Try.ntmps51
  go_wp2_with fail
  go_quiet (fail)
  go_wp2_with fail
  go_ret
  exact ⟨by push_cast; rfl, _, rfl⟩
theorem rnext_nil (w : World) : Calls Try.prog 51 #[.pointer none] w fun e w' => e = .returned (.int .u64 0) ∧ w = w' := by
  go_enter Try.func51, Try.ntmps51
  go_wp2_with fail
  go_ret
  exact ⟨rfl, rfl⟩
theorem rstate_nil (w : World) (x : Int) : Calls Try.prog 52 #[.pointer none, .int .u64 x] w fun e w' => e = .returned (.int .i64 0) ∧ ∃ m, w' = w.drewN m := by
  go_enter Try.func52, Try.ntmps52
  go_wp2_with fail
  go_quiet (fail)
  go_wp2_with fail
  go_ret
  exact ⟨rfl, _, rfl⟩
theorem rstate_any (h : RF w F Q f S) {x : Nat} (hx : x < 18446744073709551616) : Calls Try.prog 52 #[.pointer (some ⟨Q, 0, none⟩), .int .u64 (x : Int)] w fun e w' => e = .returned (.int .i64 (stOf f S x : Int)) ∧ ∃ m, w' = w.drewN m := by
  obtain ⟨A, c, h⟩ := h
  have x0 := h.blk.cell 0
  have x1 := h.blk.cell 1
  have hle := h.top
  have hc := h.le
  unfold maxLen at hc
  obtain ⟨n, hn⟩ : ∃ n, S.length = n := ⟨_, rfl⟩
  rw [hn] at x1 hle hc
  by_cases h1 : x < f
  · have HS : Hid (stOf f S x = 0) := Lib.hid (st_out (.inl h1))
    have h1' : decide ((x : Int) < f) = true := by simpa using h1
    have h1n : decide (x < f) = true := by simpa using h1
    clear h hn
    go_enter Try.func52, Try.ntmps52
    go_wp2_with fail
    go_quiet (fail)
    go_wp2_with fail
    go_ret
    exact ⟨by rw [HS.out]; rfl, _, rfl⟩
  have h1' : decide ((x : Int) < f) = false := by simpa using h1
  have h1n : decide (x < f) = false := by simpa using h1
  obtain ⟨d, hd⟩ : ∃ d, x - f = d := ⟨_, rfl⟩
  have hw : IntKind.u64.wrap ((x : Int) - (f : Int)) = (d : Int) := by rw [IntKind.wrap_u64]; omega
  have hw2 : IntKind.u64.wrap (n : Int) = (n : Int) := by rw [IntKind.wrap_u64]; omega
  by_cases h2 : n ≤ d
  · have HS : Hid (stOf f S x = 0) := Lib.hid (st_out (.inr (by omega)))
    have h2' : decide ((n : Int) ≤ d) = true := by simpa using h2
    have h2n : decide (n ≤ d) = true := by simpa using h2
    clear h hn h1 hd
    go_enter Try.func52, Try.ntmps52
    go_wp2_with fail
    go_quiet (fail)
    go_wp2_with fail
    go_ret
    exact ⟨by rw [HS.out]; rfl, _, rfl⟩
  · have h2' : decide ((n : Int) ≤ d) = false := by simpa using h2
    have h2n : decide (n ≤ d) = false := by simpa using h2
    obtain ⟨s, hs⟩ : ∃ s, S[d]? = some s := ⟨_, List.getElem?_eq_getElem (by omega)⟩
    have HS : Hid (stOf f S x = s) := Lib.hid (by unfold stOf; rw [if_pos (by omega), hd, List.getD_eq_getElem?_getD, hs]; rfl)
    obtain ⟨g, rfl, y0, _⟩ := h.at_ hs
    have h3 : (d : Int) < n := by omega
    clear h hn h1 hd hs
    go_enter Try.func52, Try.ntmps52
    go_wp2_with fail
    go_quiet (fail)
    go_wp2_with fail
    go_quiet (fail)
    go_wp2_with fail
    go_ret
    exact ⟨by rw [HS.out]; rfl, _, World.drewN_drewN _ _ _⟩
theorem rbegin_nil (w : World) : Calls Try.prog 49 #[.pointer none] w fun e w' => e = .returned (.tuple #[.int .u64 0, .int .i64 15]) ∧ w = w' := by
  go_enter Try.func49, Try.ntmps49
  go_wp2_with fail
  go_ret2
  exact ⟨rfl, rfl⟩
theorem rbegin_full (h : RF w F Q f S) (ht : f + S.length = 1099511627777) : Calls Try.prog 49 #[.pointer (some ⟨Q, 0, none⟩)] w fun e w' => e = .returned (.tuple #[.int .u64 0, .int .i64 12]) ∧ ∃ m, w' = w.drewN m := by
  have CN := Lib.hid (rnext_any h)
  rw [ht] at CN
  clear h ht
  go_enter Try.func49, Try.ntmps49
  go_wp2_with fail
  refine CN.out.mono ?_
  rintro e w1 ⟨rfl, m, rfl⟩
  go_wp2_with fail
  go_ret2
  exact ⟨rfl, _, rfl⟩
def RGoes (w : World) (F : Nat → Prop) (Q f : Nat) (S' : List Nat) (w' : World) : Prop := RF w' (New F w w') Q f S' ∧ Turn F w w'
def RBegP (w : World) (F : Nat → Prop) (Q f : Nat) (S : List Nat) (e : Ending) (w' : World) : Prop := e = .returned (.tuple #[.int .u64 ((f + S.length : Nat) : Int), .int .i64 0]) ∧ RGoes w F Q f (S ++ [1]) w'
theorem RL.far (h : RL w F Q f S A c) : (Value.slice A S.length c).ownBlock ≠ some Q := own_blk_ne h.own h.blk (by decide)
set_option maxHeartbeats 1000000 in
theorem rbegin_any (h : RF w F Q f S) (ht : f + S.length ≤ 1099511627776) : Calls Try.prog 49 #[.pointer (some ⟨Q, 0, none⟩)] w (RBegP w F Q f S) := by
  have CN := Lib.hid (rnext_any h)
  obtain ⟨A, c, h⟩ := h
  obtain ⟨nx, hnx⟩ : ∃ nx, f + S.length = nx := ⟨_, rfl⟩
  have HNX := Lib.hid hnx
  rw [hnx] at CN ht
  obtain ⟨n, hn⟩ : ∃ n, S.length = n := ⟨_, rfl⟩
  have H := Lib.hid h
  have HN := Lib.hid hn
  have hBk := h.blk
  have hO := h.own
  have hF := h.far
  rw [hn] at hBk hO hF
  have HB := Lib.hid hBk
  have HO := Lib.hid hO
  have HF := Lib.hid hF
  have hn1 : n ≤ 1099511627777 := by omega
  have ht' : ¬ (1099511627776 : Int) < nx := by omega
  clear h hn hnx hBk hO hF
  go_enter Try.func49, Try.ntmps49
  go_wp2_with fail
  refine CN.out.mono ?_
  rintro e w1 ⟨rfl, m, rfl⟩
  have x1 := HB.out.cell 1
  have x1' : (w.drewN m).cell? ⟨Q, 1, none⟩ = some (.slice A n c) := x1
  have f1 : (w.drewN m).frozen? ⟨Q, 1, none⟩ = false := HB.out.frozen 1
  have HOD : Hid (OwnI (w.drewN m) 0 (.slice A n c) n (nats S)) := Lib.hid HO.out
  have HBD : Hid (Blk (w.drewN m) Q 162 #[.int .u64 (f : Int), .slice A n c]) := Lib.hid HB.out
  have HT0 : Hid (Turn F w (w.drewN m)) := Lib.hid ((Turn.refl F w).drewN m)
  have hsz0 : (w.drewN m).heap.size = w.heap.size := rfl
  have HSZ := Lib.hid hsz0
  clear x1 hsz0
  generalize w.drewN m = wd at *
  go_wp2_with (at_builtin; go_loud (refine wpl_app_i rfl (.tmp 15) (.tmp 16) rfl 0 _ n (nats S) rfl (HOD.out.alloc _) _ _ 1 _ rfl (lies_lit _ _ _ 1 1 rfl) (one1 _ _) (by omega) (by omega) ?_; intro v1 w1 hown1 hg1; obtain ⟨A1, c1, hv1, _⟩ := Sl.of_own hown1; subst hv1; have hb1 : Blk w1 Q 162 #[.int .u64 (f : Int), .slice A n c] := (hg1.1.block Q (HBD.out.alloc _).lt (Ne.symm HF.out)).trans (HBD.out.alloc _); have hb2 : Blk (w1.setCell ⟨Q, 1, none⟩ (.slice A1 (n + 1) c1)) Q 162 #[.int .u64 (f : Int), .slice A1 (n + 1) c1] := hb1.set_ 1 _; have hc1 := hb1.cell 1; have hf1 := hb1.frozen 1))
  go_ret2
  have hl : (S ++ [1]).length = n + 1 := by rw [List.length_append, HN.out]; rfl
  have hT1 : Turn F w w1 := (HT0.out.alloc _).kin hg1 (fun g hg => .inl (H.out.fA g (by rw [HN.out]; exact hg)))
  have hsz1 : w.heap.size ≤ w1.heap.size := hT1.size
  refine ⟨by rw [HNX.out]; rfl, ⟨A1, c1, by rw [hl]; exact hb2, ?_, H.out.f1, by rw [hl]; have := HNX.out; have := HN.out; omega, .inl H.out.fQ, fun g hg => ?_, fun g hg => ?_⟩, hT1.set_ (.inl H.out.fQ) _⟩
  · rw [hl]
    exact own_keep (own_eqI hown1 rfl (by rw [nats_app]; rfl)) fun g hg => Below.heap_setCell _ _ _ g (fun e => own_blk_ne hown1 hb1 (by decide) (by rw [hg, e]))
  · have hsc : (w1.setCell ⟨Q, 1, none⟩ (.slice A1 (n + 1) c1)).heap.size = w1.heap.size := by simp [World.setCell]
    rw [hl] at hg
    rcases hg1.2 with e | ⟨g', e, hg'⟩
    · exact .inl (H.out.fA g (by rw [HN.out]; exact e.symm.trans hg))
    · refine .inr ⟨?_, by rw [hsc]; exact (hown1.lt g hg).2⟩
      have e2 := e.symm.trans hg
      injection e2 with e2
      rw [size_alloc, HSZ.out] at hg'
      omega
  · have hsc : (w1.setCell ⟨Q, 1, none⟩ (.slice A1 (n + 1) c1)).heap.size = w1.heap.size := by simp [World.setCell]
    rcases hg with hg | hg
    · rw [hsc]; exact Nat.lt_of_lt_of_le (H.out.lt g hg) hsz1
    · exact hg.2
theorem rnew_bad (w : World) (f : Int) (hf : f < 1 ∨ 1099511627776 < f) (h0 : 0 ≤ f) : Calls Try.prog 44 #[.int .u64 f] w fun e w' => e = .returned (.tuple #[.pointer none, .int .i64 1]) ∧ w = w' := by
  rcases hf with hf | hf
  · go_enter Try.func44, Try.ntmps44
    go_wp2_with fail
    go_ret2
    exact ⟨rfl, rfl⟩
  · have hf0 : ¬ f < 1 := by omega
    go_enter Try.func44, Try.ntmps44
    go_wp2_with fail
    go_ret2
    exact ⟨rfl, rfl⟩
theorem rnew_any (w : World) (f : Nat) (h1 : 1 ≤ f) (h2 : f ≤ 1099511627776) : Calls Try.prog 44 #[.int .u64 (f : Int)] w fun e w' => e = .returned (.tuple #[.pointer (some ⟨w.heap.size, 0, none⟩), .int .i64 0]) ∧ RF w' (fun g => g = w.heap.size) w.heap.size f [] ∧ Below w.heap.size w w' := by
  have hf0 : ¬ (f : Int) < 1 := by omega
  have hf1 : ¬ (1099511627776 : Int) < f := by omega
  have HP : Hid (RF (w.alloc (.cells #[.int .u64 (f : Int), .slice none 0 0] 162)) (fun g => g = w.heap.size) w.heap.size f []) := Lib.hid
    ⟨none, 0, Blk.new w _ _, World.ownsRow_nil _ _ _ _, h1, by simp; omega, rfl, fun g hg => by simp [Value.ownBlock] at hg, fun g hg => by subst hg; rw [size_alloc]; omega⟩
  go_enter Try.func44, Try.ntmps44
  go_wp2_with fail
  go_ret2
  exact ⟨rfl, HP.out, bel_alloc _ _⟩
theorem rend_nil (w : World) (x s : Int) : Calls Try.prog 45 #[.pointer none, .int .u64 x, .int .i64 s] w fun e w' => e = .returned (.int .i64 15) ∧ ∃ m, w' = w.drewN m := by
  go_enter Try.func45, Try.ntmps45
  go_wp2_with fail
  refine (rstate_nil w x).mono ?_
  rintro e w1 ⟨rfl, m, rfl⟩
  go_wp2_with fail
  go_ret
  exact ⟨rfl, _, rfl⟩
theorem rgoes_refl (h : RF w F Q f S) : RGoes w F Q f S w := by
  obtain ⟨A, c, h⟩ := h
  exact ⟨⟨A, c, h.more (fun g hg => .inl hg) (fun g hg => by rcases hg with hg | hg; exact h.lt g hg; exact hg.2)⟩, Turn.refl _ _⟩
theorem RGoes.drewN (h : RGoes w F Q f S w') (m : Nat) : RGoes w F Q f S (w'.drewN m) := ⟨h.1.drewN m, h.2.drewN m⟩
theorem RGoes.of {w0 : World} (h : RGoes w F Q f S w') (ht : Turn F w0 w) : RGoes w0 F Q f S w' := by
  obtain ⟨⟨A, c, h1⟩, h2⟩ := h
  have hz := ht.size
  refine ⟨⟨A, c, h1.more (fun g hg => ?_) (fun g hg => ?_)⟩, ht.trans h2⟩
  · rcases hg with hg | hg
    · exact .inl hg
    · exact .inr ⟨by omega, hg.2⟩
  · rcases hg with hg | hg
    · exact h1.lt g (.inl hg)
    · exact hg.2
theorem rl_set {g d : Nat} (h : RL w F Q f S (some ⟨g, 0, none⟩) c) {x : Nat} (hd : x - f = d) (s : Nat) : RGoes w F Q f (S.set (x - f) s) (w.setCell ⟨g, d, none⟩ (.int .i64 (s : Int))) := by
  subst hd
  have hst := World.ownsRow.stored h.own (x - f) (.int .i64 (s : Int))
  have hgQ : Q ≠ g := fun e => h.far (by rw [e]; rfl)
  have hl : (S.set (x - f) s).length = S.length := List.length_set
  have hsz : (w.setCell ⟨g, x - f, none⟩ (.int .i64 (s : Int))).heap.size = w.heap.size := by simp [World.setCell]
  refine ⟨⟨some ⟨g, 0, none⟩, c, ?_, ?_, h.f1, by rw [hl]; exact h.top, .inl h.fQ, fun k hk => .inl (h.fA k (by rw [hl] at hk; exact hk)), fun k hk => ?_⟩, (Turn.refl F w).set_ (.inl (h.fA g rfl)) _⟩
  · rw [hl]; exact h.blk.far hgQ _
  · have e : nats (S.set (x - f) s) = (nats S).set (x - f) (.int .i64 (s : Int)) := by unfold nats; rw [List.map_set]
    rw [hl, e]
    exact hst.1
  · rw [hsz]
    rcases hk with hk | hk
    · exact h.lt k hk
    · rw [hsz] at hk; exact hk.2
def REndP (w : World) (F : Nat → Prop) (Q f : Nat) (S : List Nat) (x s : Nat) (e : Ending) (w' : World) : Prop := e = .returned (.int .i64 (endE f S x)) ∧ RGoes w F Q f (endS f S x s) w'
set_option maxHeartbeats 1000000 in
theorem rend_any (h : RF w F Q f S) {x : Nat} (hxx : x < 18446744073709551616) (s : Nat) : Calls Try.prog 45 #[.pointer (some ⟨Q, 0, none⟩), .int .u64 (x : Int), .int .i64 (s : Int)] w (REndP w F Q f S x s) := by
  have CS := Lib.hid (rstate_any h hxx)
  by_cases hx : stOf f S x = 1
  · have HE : Hid (endE f S x = 0 ∧ endS f S x s = S.set (x - f) s) := Lib.hid ⟨if_pos hx, if_pos hx⟩
    rw [hx] at CS
    obtain ⟨A, c, h⟩ := h
    have H := Lib.hid h
    have x0 := h.blk.cell 0
    have x1 := h.blk.cell 1
    obtain ⟨hi, he⟩ := st_get hx (by omega)
    have hin := st_in (f := f) (S := S) (x := x) (by omega)
    obtain ⟨d, hd⟩ : ∃ d, x - f = d := ⟨_, rfl⟩
    have hw : IntKind.u64.wrap ((x : Int) - (f : Int)) = (d : Int) := by rw [IntKind.wrap_u64]; omega
    have HD := Lib.hid hd
    obtain ⟨n, hn⟩ : ∃ n, S.length = n := ⟨_, rfl⟩
    have HN := Lib.hid hn
    obtain ⟨g, rfl, y0, yf⟩ := h.at_ (show S[d]? = some 1 by rw [← hd, List.getElem?_eq_getElem hi, he])
    have hc := h.le
    unfold maxLen at hc
    rw [hn] at x1 hi hc
    have h3 : (d : Int) < n := by omega
    clear h hx hi he hin hd hn
    go_enter Try.func45, Try.ntmps45
    go_wp2_with fail
    refine CS.out.mono ?_
    rintro e w1 ⟨rfl, m, rfl⟩
    go_wp2_with fail
    go_region
    go_wp2_with fail
    go_ret
    unfold REndP
    rw [HE.out.1, HE.out.2]
    have h0 : RL ((w.drewN m).drew) F Q f S (some ⟨g, 0, none⟩) c := H.out.keep (fun _ _ => rfl) (Nat.le_refl _)
    exact ⟨rfl, (rl_set h0 HD.out s).of ⟨rfl, rfl, rfl, Nat.le_refl _, fun _ _ _ => rfl⟩⟩
  · have HE : Hid (endE f S x = 15 ∧ endS f S x s = S) := Lib.hid ⟨if_neg hx, if_neg hx⟩
    have HG := Lib.hid (rgoes_refl h)
    have hne : (((stOf f S x : Nat) : Int) != 1) = true := by simp; omega
    generalize stOf f S x = t at *
    clear h hx
    go_enter Try.func45, Try.ntmps45
    go_wp2_with fail
    refine CS.out.mono ?_
    rintro e w1 ⟨rfl, m, rfl⟩
    go_wp2_with fail
    go_ret
    unfold REndP
    rw [HE.out.1, HE.out.2]
    exact ⟨rfl, HG.out.drewN _⟩
end
end Go.Proofs.Ytnpmjljpaaaljaa.Clg
