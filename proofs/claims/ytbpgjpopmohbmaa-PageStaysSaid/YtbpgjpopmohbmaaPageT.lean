/- bytes.Clone, page.tuple. -/
import Derived.Test.YtbpgjpopmohbmaaPageP
import Derived.OwnWalk
namespace Go.Proofs.Ytbpgjpopmohbmaa.Mem
open Go.RowKit Go.Proofs.Ytbpgjpopmohbmaa.Nums
set_option linter.unusedVariables false
set_option linter.unusedSimpArgs false
set_option maxRecDepth 100000
set_option maxHeartbeats 4000000
attribute [local go_sem] nil_nil some_nil
def OwnB (w : World) (B : Nat) (v : Value) (n : Nat) (xs : List Value) : Prop := w.ownsRow B 5 1 v n xs
theorem own_eq {w : World} {B : Nat} {v : Value} {n n' : Nat} {xs xs' : List Value} (h : OwnB w B v n xs) (hn : n = n') (hx : xs = xs') : OwnB w B v n' xs' := by subst hn hx; exact h
theorem wpl_app_b {w : World} {ops : Array Oper} {rest : List Oper} {o : Oper} {a : Act} {Q : Exit → Act → World → Prop} (hgd : o.guard = none) (s x : Operand)
    (ho : o.op = .call { callee := .builtin .append, args := #[s, x], argTypes := #[31, 31] })
    (base : Nat) (v : Value) (n : Nat) (xs : List Value) (hs : a.eval s = v) (hown : OwnB w base v n xs)
    (B : Nat) (y : Value) (m : Nat) (news : List Value) (hy : a.eval x = y) (hx : Lies w B 1 y m news) (h1 : ∀ u ∈ news, u.oneCell' = true)
    (hbytes : n + m ≤ 140737488355328) (hbase : base ≤ w.heap.size)
    (h : ∀ v' w', OwnB w' base v' (n + m) (xs ++ news) → Kin w w' v v' → wpList Try.prog ops Q rest (a.put o.dst v') w') : wpList Try.prog ops Q (o :: rest) a w :=
  wpList_plain hgd fun _ hK => by
    obtain ⟨i, hi, hz0, hz1, hz2⟩ := info_part info5
    exact wp_append_mem w s x _ ho base 5 i _ 1 1 Try.underlying31 hi hz0 hz1 hz2 rfl (by omega) v n xs hs hown B y m news hy hx h1 (by unfold maxLen; omega) (by omega) hbase fun v' w' h2 h3 => hK _ _ (h v' w' h2 h3)
theorem bel_app {w w1 : World} {o : Obj} {v1 : Value} {n c : Nat} (hg : Kin (w.alloc o) w1 (.slice (some ⟨w.heap.size, 0, none⟩) n c) v1) : Below w.heap.size w w1 :=
  (bel_alloc w o).trans (hg.below (by rw [size_alloc]; omega) (fun k hk => by simp [Value.ownBlock] at hk; omega))
theorem own_empty (w : World) : OwnB (w.alloc (.cells #[] 5)) w.heap.size (.slice (some ⟨w.heap.size, 0, none⟩) 0 0) 0 [] := World.ownsRow_lit w #[] 0 (Nat.le_refl _) (by unfold maxLen; omega) rfl
theorem clone_any (x : List UInt8) (ad : Addr) (n c : Nat) (w : World) (hx : Sl w w.heap.size 1 (some ad) n c (u8s x)) (hn : n ≤ 1000000) :
    Calls Try.prog 65 #[.slice (some ad) n c] w fun e w' => ∃ v, e = .returned v ∧ OwnB w' w.heap.size v n (u8s x) ∧ Below w.heap.size w w' := by
  have HX := Lib.hid hx
  clear hx
  go_enter Try.func65, Try.ntmps65
  go_wp2_with (at_builtin; (refine wpl_app_b rfl (.tmp 5) (.tmp 6) rfl w.heap.size _ 0 [] rfl (own_empty w) _ _ n _ rfl (HX.out.below (bel_alloc _ _)).lies (u8s_one _) (by omega) (by rw [size_alloc]; omega) ?_; intro v1 w1 hown1 hgrow1))
  go_ret
  exact ⟨_, rfl, own_eq hown1 (by omega) rfl, bel_app hgrow1⟩
theorem own_mono {w : World} {B B' sz n : Nat} {e : TypeId} {v : Value} {xs : List Value} (h : w.ownsRow B e sz v n xs) (hB : B' ≤ B) : w.ownsRow B' e sz v n xs := by
  refine ⟨h.1, ?_⟩
  rcases h.2 with h0 | ⟨g, cap, cur, hv, hb, rest⟩
  · exact .inl h0
  · exact .inr ⟨g, cap, cur, hv, Nat.le_trans hB hb, rest⟩
theorem Blk.drew {w : World} {g : Nat} {t : TypeId} {cs : Array Value} (h : Blk w g t cs) : Blk w.drew g t cs := h
/-- so many bytes of a block, as a number -/
def getN (X : List UInt8) (a m : Nat) : Nat := leN ((X.drop a).take m)
theorem rdB {w : World} {g : Nat} {t : TypeId} {X : List UInt8} (hb : BB w g t X) (a m c : Nat) (ha : a + m ≤ X.length) (hm : m ≤ 8) (hc : m ≤ c) (hcm : c ≤ 100000) :
    Calls Try.prog 72 #[.slice (some ⟨g, a, none⟩) m c] w fun e w' => e = .returned (.int .u64 (getN X a m : Nat)) ∧ w = w' :=
  read_any _ w.heap.size _ _ _ w hm (BB.sl hb a m c ha hc (by unfold maxLen; omega))
theorem getN_lt (X : List UInt8) (a m : Nat) : getN X a m < 2 ^ (8 * m) := by
  have h1 := leN_lt ((X.drop a).take m)
  have h2 : ((X.drop a).take m).length ≤ m := by rw [List.length_take]; omega
  exact Nat.lt_of_lt_of_le h1 (Nat.pow_le_pow_right (by omega) (by omega))
theorem tuple_any (g f z c : Nat) (t : TypeId) (X : List UInt8) (w : World) (hb : BB w g t X) (hX : f + z ≤ X.length) (h30 : 30 ≤ z) (hz : z ≤ c) (hc : c ≤ 100000) (hXb : X.length ≤ 100000) :
    Calls Try.prog 73 #[.slice (some ⟨g, f, none⟩) z c] w fun e w' => ∃ v, e = .returned (.agg #[.int .u64 (getN X f 8 : Nat), .int .u64 (getN X (f + 8) 8 : Nat), .int .u64 (getN X (f + 16) 8 : Nat), .int .i64 ((getN X (f + 24) 4 : Nat) - 1), .int .i64 ((getN X (f + 28) 2 : Nat) - 1), v]) ∧ OwnB w' w.heap.size v (z - 30) (u8s ((X.drop (f + 30)).take (z - 30))) ∧ Below w.heap.size w w' := by
  have hgl : g < w.heap.size := Blk.lt hb
  have HB0 : Hid (BB (w.alloc (.cells #[.int .u64 0, .int .u64 0, .int .u64 0, .int .i64 0, .int .i64 0, .slice none 0 0] 33)) g t X) := Lib.hid (Blk.alloc hb _)
  have HT0 : Hid (Blk (w.alloc (.cells #[.int .u64 0, .int .u64 0, .int .u64 0, .int .i64 0, .int .i64 0, .slice none 0 0] 33)) w.heap.size 33 #[.int .u64 0, .int .u64 0, .int .u64 0, .int .i64 0, .int .i64 0, .slice none 0 0]) := Lib.hid (Blk.new w _ _)
  have HBE0 : Hid (Below w.heap.size w (w.alloc (.cells #[.int .u64 0, .int .u64 0, .int .u64 0, .int .i64 0, .int .i64 0, .slice none 0 0] 33))) := Lib.hid (bel_alloc _ _)
  have hsx := size_alloc w (.cells #[.int .u64 0, .int .u64 0, .int .u64 0, .int .i64 0, .int .i64 0, .slice none 0 0] 33)
  clear hb
  have k1 : (8 : Int) ≤ c := by omega
  have k2 : (16 : Int) ≤ c := by omega
  have k3 : (24 : Int) ≤ c := by omega
  have k4 : (28 : Int) ≤ c := by omega
  have k5 : (30 : Int) ≤ c := by omega
  have k6 : (30 : Int) ≤ z := by omega
  have k7 : (z : Int) ≤ c := by omega
  have j1 : ¬ c = 8 := by omega
  have j2 : ¬ c = 16 := by omega
  have j3 : ¬ c = 24 := by omega
  have j4 : ¬ c = 28 := by omega
  have g4 := getN_lt X (f + 24) 4
  have g2 := getN_lt X (f + 28) 2
  have w1 : IntKind.i64.wrap ((getN X (f + 24) 4 : Nat) : Int) = (getN X (f + 24) 4 : Nat) := by rw [IntKind.wrap_i64]; omega
  have w2 : IntKind.i64.wrap (((getN X (f + 24) 4 : Nat) : Int) - 1) = (getN X (f + 24) 4 : Nat) - 1 := by rw [IntKind.wrap_i64]; omega
  have w3 : IntKind.i64.wrap ((getN X (f + 28) 2 : Nat) : Int) = (getN X (f + 28) 2 : Nat) := by rw [IntKind.wrap_i64]; omega
  have w4 : IntKind.i64.wrap (((getN X (f + 28) 2 : Nat) : Int) - 1) = (getN X (f + 28) 2 : Nat) - 1 := by rw [IntKind.wrap_i64]; omega
  have hTT : True := trivial
  clear g4 g2
  by_cases hc30 : c = 30
  · subst hc30
    obtain rfl : z = 30 := by omega
    go_enter Try.func73, Try.ntmps73
    go_wp2_with fail
    go_region_held3 (fun _ => True) (first | go_keep | exact trivial)
      (first
        | (go_at_call 72; refine (rdB (BB.drew HB0.out) _ _ _ (by omega) (by omega) (by omega) (by omega)).mono ?_; rintro e w2 ⟨rfl, rfl⟩)
        | (go_at_call 65; refine (clone_any ((X.drop (f + 30)).take 0) ⟨g, f, none⟩ 0 0 _ (by rw [List.take_zero]; exact ⟨rfl, Nat.le_refl _, Nat.zero_le _, (fun e => by cases e), fun h => absurd h (by omega)⟩) (by omega)).mono ?_; rintro e wc ⟨vc, rfl, hown, hbc⟩; obtain ⟨Av, cv, hv, hsv⟩ := Sl.of_own hown; subst hv; have HT1 := Lib.hid (Blk.below (Blk.drew HT0.out) hbc (by show w.heap.size < (w.alloc _).heap.size; omega)); have q0 := HT1.out.cell 0; have q1 := HT1.out.cell 1; have q2 := HT1.out.cell 2; have q3 := HT1.out.cell 3; have q4 := HT1.out.cell 4; have q5 := HT1.out.cell 5; have p0 := HT1.out.frozen 0; have p1 := HT1.out.frozen 1; have p2 := HT1.out.frozen 2; have p3 := HT1.out.frozen 3; have p4 := HT1.out.frozen 4; have p5 := HT1.out.frozen 5))
    go_wp2_with fail
    have HF := Lib.hid (Blk.set_ (Blk.set_ (Blk.set_ (Blk.set_ (Blk.set_ (Blk.set_ HT1.out 0 (.int .u64 (getN X f 8 : Nat))) 1 (.int .u64 (getN X (f + 8) 8 : Nat))) 2 (.int .u64 (getN X (f + 16) 8 : Nat))) 3 (.int .i64 ((getN X (f + 24) 4 : Nat) - 1))) 4 (.int .i64 ((getN X (f + 28) 2 : Nat) - 1))) 5 (.slice Av (0) cv))
    have HOW := Lib.hid (own_keep (own_mono hown (by show w.heap.size ≤ (w.alloc _).heap.size; omega)) (w' := (((((wc.setCell ⟨w.heap.size, 0, none⟩ (.int .u64 (getN X f 8 : Nat))).setCell ⟨w.heap.size, 1, none⟩ (.int .u64 (getN X (f + 8) 8 : Nat))).setCell ⟨w.heap.size, 2, none⟩ (.int .u64 (getN X (f + 16) 8 : Nat))).setCell ⟨w.heap.size, 3, none⟩ (.int .i64 ((getN X (f + 24) 4 : Nat) - 1))).setCell ⟨w.heap.size, 4, none⟩ (.int .i64 ((getN X (f + 28) 2 : Nat) - 1))).setCell ⟨w.heap.size, 5, none⟩ (.slice Av (0) cv)) (fun k hk => by
      have h1 := (hown.lt k hk).1
      have h2 : w.heap.size ≠ k := by intro e; have h3 : (w.alloc (.cells #[.int .u64 0, .int .u64 0, .int .u64 0, .int .i64 0, .int .i64 0, .slice none 0 0] 33)).heap.size ≤ k := h1; omega
      rw [Below.heap_setCell _ _ _ _ (Ne.symm h2), Below.heap_setCell _ _ _ _ (Ne.symm h2), Below.heap_setCell _ _ _ _ (Ne.symm h2), Below.heap_setCell _ _ _ _ (Ne.symm h2), Below.heap_setCell _ _ _ _ (Ne.symm h2), Below.heap_setCell _ _ _ _ (Ne.symm h2)]))
    have HBW := Lib.hid (((((((HBE0.out.drew.trans (hbc.mono (by show w.heap.size ≤ (w.alloc _).heap.size; omega))).setCell (p := ⟨w.heap.size, 0, none⟩) (Nat.le_refl _) (.int .u64 (getN X f 8 : Nat))).setCell (p := ⟨w.heap.size, 1, none⟩) (Nat.le_refl _) (.int .u64 (getN X (f + 8) 8 : Nat))).setCell (p := ⟨w.heap.size, 2, none⟩) (Nat.le_refl _) (.int .u64 (getN X (f + 16) 8 : Nat))).setCell (p := ⟨w.heap.size, 3, none⟩) (Nat.le_refl _) (.int .i64 ((getN X (f + 24) 4 : Nat) - 1))).setCell (p := ⟨w.heap.size, 4, none⟩) (Nat.le_refl _) (.int .i64 ((getN X (f + 28) 2 : Nat) - 1))).setCell (p := ⟨w.heap.size, 5, none⟩) (Nat.le_refl _) (.slice Av (0) cv))
    obtain ⟨wf, hwf⟩ : ∃ wf, (((((wc.setCell ⟨w.heap.size, 0, none⟩ (.int .u64 (getN X f 8 : Nat))).setCell ⟨w.heap.size, 1, none⟩ (.int .u64 (getN X (f + 8) 8 : Nat))).setCell ⟨w.heap.size, 2, none⟩ (.int .u64 (getN X (f + 16) 8 : Nat))).setCell ⟨w.heap.size, 3, none⟩ (.int .i64 ((getN X (f + 24) 4 : Nat) - 1))).setCell ⟨w.heap.size, 4, none⟩ (.int .i64 ((getN X (f + 28) 2 : Nat) - 1))).setCell ⟨w.heap.size, 5, none⟩ (.slice Av (0) cv) = wf := ⟨_, rfl⟩
    rw [hwf] at HF HOW HBW ⊢
    have r0 := HF.out.cell 0
    have r1 := HF.out.cell 1
    have r2 := HF.out.cell 2
    have r3 := HF.out.cell 3
    have r4 := HF.out.cell 4
    have r5 := HF.out.cell 5
    clear hwf q0 q1 q2 q3 q4 q5 p0 p1 p2 p3 p4 p5
    exact bodyPost_ret (v := .agg #[.int .u64 (getN X f 8 : Nat), .int .u64 (getN X (f + 8) 8 : Nat), .int .u64 (getN X (f + 16) 8 : Nat), .int .i64 ((getN X (f + 24) 4 : Nat) - 1), .int .i64 ((getN X (f + 28) 2 : Nat) - 1), .slice Av (0) cv]) (by simp [results, Try.results73, go_sem, r0, r1, r2, r3, r4, r5]) rfl ⟨_, rfl, HOW.out, HBW.out⟩
  · go_enter Try.func73, Try.ntmps73
    go_wp2_with fail
    go_region_held3 (fun _ => True) (first | go_keep | exact trivial)
      (first
        | (go_at_call 72; refine (rdB (BB.drew HB0.out) _ _ _ (by omega) (by omega) (by omega) (by omega)).mono ?_; rintro e w2 ⟨rfl, rfl⟩)
        | (go_at_call 65; refine (clone_any ((X.drop (f + 30)).take (z - 30)) ⟨g, f + 30, none⟩ (z - 30) (c - 30) _ (BB.sl (BB.drew HB0.out) (f + 30) (z - 30) (c - 30) (by omega) (by omega) (by unfold maxLen; omega)) (by omega)).mono ?_; rintro e wc ⟨vc, rfl, hown, hbc⟩; obtain ⟨Av, cv, hv, hsv⟩ := Sl.of_own hown; subst hv; have HT1 := Lib.hid (Blk.below (Blk.drew HT0.out) hbc (by show w.heap.size < (w.alloc _).heap.size; omega)); have q0 := HT1.out.cell 0; have q1 := HT1.out.cell 1; have q2 := HT1.out.cell 2; have q3 := HT1.out.cell 3; have q4 := HT1.out.cell 4; have q5 := HT1.out.cell 5; have p0 := HT1.out.frozen 0; have p1 := HT1.out.frozen 1; have p2 := HT1.out.frozen 2; have p3 := HT1.out.frozen 3; have p4 := HT1.out.frozen 4; have p5 := HT1.out.frozen 5))
    go_wp2_with fail
    have HF := Lib.hid (Blk.set_ (Blk.set_ (Blk.set_ (Blk.set_ (Blk.set_ (Blk.set_ HT1.out 0 (.int .u64 (getN X f 8 : Nat))) 1 (.int .u64 (getN X (f + 8) 8 : Nat))) 2 (.int .u64 (getN X (f + 16) 8 : Nat))) 3 (.int .i64 ((getN X (f + 24) 4 : Nat) - 1))) 4 (.int .i64 ((getN X (f + 28) 2 : Nat) - 1))) 5 (.slice Av (z - 30) cv))
    have HOW := Lib.hid (own_keep (own_mono hown (by show w.heap.size ≤ (w.alloc _).heap.size; omega)) (w' := (((((wc.setCell ⟨w.heap.size, 0, none⟩ (.int .u64 (getN X f 8 : Nat))).setCell ⟨w.heap.size, 1, none⟩ (.int .u64 (getN X (f + 8) 8 : Nat))).setCell ⟨w.heap.size, 2, none⟩ (.int .u64 (getN X (f + 16) 8 : Nat))).setCell ⟨w.heap.size, 3, none⟩ (.int .i64 ((getN X (f + 24) 4 : Nat) - 1))).setCell ⟨w.heap.size, 4, none⟩ (.int .i64 ((getN X (f + 28) 2 : Nat) - 1))).setCell ⟨w.heap.size, 5, none⟩ (.slice Av (z - 30) cv)) (fun k hk => by
      have h1 := (hown.lt k hk).1
      have h2 : w.heap.size ≠ k := by intro e; have h3 : (w.alloc (.cells #[.int .u64 0, .int .u64 0, .int .u64 0, .int .i64 0, .int .i64 0, .slice none 0 0] 33)).heap.size ≤ k := h1; omega
      rw [Below.heap_setCell _ _ _ _ (Ne.symm h2), Below.heap_setCell _ _ _ _ (Ne.symm h2), Below.heap_setCell _ _ _ _ (Ne.symm h2), Below.heap_setCell _ _ _ _ (Ne.symm h2), Below.heap_setCell _ _ _ _ (Ne.symm h2), Below.heap_setCell _ _ _ _ (Ne.symm h2)]))
    have HBW := Lib.hid (((((((HBE0.out.drew.trans (hbc.mono (by show w.heap.size ≤ (w.alloc _).heap.size; omega))).setCell (p := ⟨w.heap.size, 0, none⟩) (Nat.le_refl _) (.int .u64 (getN X f 8 : Nat))).setCell (p := ⟨w.heap.size, 1, none⟩) (Nat.le_refl _) (.int .u64 (getN X (f + 8) 8 : Nat))).setCell (p := ⟨w.heap.size, 2, none⟩) (Nat.le_refl _) (.int .u64 (getN X (f + 16) 8 : Nat))).setCell (p := ⟨w.heap.size, 3, none⟩) (Nat.le_refl _) (.int .i64 ((getN X (f + 24) 4 : Nat) - 1))).setCell (p := ⟨w.heap.size, 4, none⟩) (Nat.le_refl _) (.int .i64 ((getN X (f + 28) 2 : Nat) - 1))).setCell (p := ⟨w.heap.size, 5, none⟩) (Nat.le_refl _) (.slice Av (z - 30) cv))
    obtain ⟨wf, hwf⟩ : ∃ wf, (((((wc.setCell ⟨w.heap.size, 0, none⟩ (.int .u64 (getN X f 8 : Nat))).setCell ⟨w.heap.size, 1, none⟩ (.int .u64 (getN X (f + 8) 8 : Nat))).setCell ⟨w.heap.size, 2, none⟩ (.int .u64 (getN X (f + 16) 8 : Nat))).setCell ⟨w.heap.size, 3, none⟩ (.int .i64 ((getN X (f + 24) 4 : Nat) - 1))).setCell ⟨w.heap.size, 4, none⟩ (.int .i64 ((getN X (f + 28) 2 : Nat) - 1))).setCell ⟨w.heap.size, 5, none⟩ (.slice Av (z - 30) cv) = wf := ⟨_, rfl⟩
    rw [hwf] at HF HOW HBW ⊢
    have r0 := HF.out.cell 0
    have r1 := HF.out.cell 1
    have r2 := HF.out.cell 2
    have r3 := HF.out.cell 3
    have r4 := HF.out.cell 4
    have r5 := HF.out.cell 5
    clear hwf q0 q1 q2 q3 q4 q5 p0 p1 p2 p3 p4 p5
    exact bodyPost_ret (v := .agg #[.int .u64 (getN X f 8 : Nat), .int .u64 (getN X (f + 8) 8 : Nat), .int .u64 (getN X (f + 16) 8 : Nat), .int .i64 ((getN X (f + 24) 4 : Nat) - 1), .int .i64 ((getN X (f + 28) 2 : Nat) - 1), .slice Av (z - 30) cv]) (by simp [results, Try.results73, go_sem, r0, r1, r2, r3, r4, r5]) rfl ⟨_, rfl, HOW.out, HBW.out⟩
end Go.Proofs.Ytbpgjpopmohbmaa.Mem
