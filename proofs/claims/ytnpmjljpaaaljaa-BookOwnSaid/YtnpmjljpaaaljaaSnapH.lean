/- snap.Horizon; lapidarylaw10.tuple, awake. -/
import Derived.Test.YtnpmjljpaaaljaaSnapQ
import Derived.Test.YtnpmjljpaaaljaaClogP
namespace Go.Proofs.Ytnpmjljpaaaljaa.Clg
open Go.ChangeMaps Go.MapKept Go.RowKit Go.Proofs.Ytnpmjljpaaaljaa.Nums Go.Proofs.Ytnpmjljpaaaljaa.Mem
set_option linter.unusedVariables false
set_option linter.unusedSimpArgs false
set_option maxRecDepth 100000
structure Sv where
  own : Nat
  xmin : Nat
  xmax : Nat
  A : Option Addr
  n : Nat
  c : Nat
def Sv.cells (s : Sv) : List Value := [.int .u64 (s.own : Int), .int .u64 (s.xmin : Int), .int .u64 (s.xmax : Int), .slice s.A s.n s.c]
def Sv.val (s : Sv) : Value := .agg #[.int .u64 (s.own : Int), .int .u64 (s.xmin : Int), .int .u64 (s.xmax : Int), .slice s.A s.n s.c]
def svs (l : List Sv) : List Value := l.flatMap Sv.cells
theorem svs_len (l : List Sv) : (svs l).length = l.length * 4 := by
  induction l with
  | nil => rfl
  | cons o l ih => show (o.cells ++ svs l).length = _; rw [List.length_append, ih, List.length_cons]; show 4 + _ = _; omega
theorem svs_app (a b : List Sv) : svs (a ++ b) = svs a ++ svs b := by simp [svs]
theorem svs_at : ∀ (l : List Sv) (k : Nat) (o : Sv), l[k]? = some o → ∀ j, j < 4 → (svs l)[k * 4 + j]? = o.cells[j]?
  | [], k, o, h, j, hj => by simp at h
  | y :: l, 0, o, h, j, hj => by
    simp at h; subst h
    show (y.cells ++ svs l)[0 * 4 + j]? = _
    rw [Nat.zero_mul, Nat.zero_add, List.getElem?_append_left (show j < y.cells.length from hj)]
  | y :: l, k + 1, o, h, j, hj => by
    show (y.cells ++ svs l)[(k + 1) * 4 + j]? = _
    have e : y.cells.length = 4 := rfl
    rw [List.getElem?_append_right (by omega), e, show (k + 1) * 4 + j - 4 = k * 4 + j by omega]
    exact svs_at l k o (by simpa using h) j hj
theorem sv_cells {w : World} {A : Option Addr} {n c : Nat} {l : List Sv} (h : Sl w w.heap.size 4 A n c (svs l)) {w' : World} (hb : Below w.heap.size w w') {k : Nat} {o : Sv} (ho : l[k]? = some o) (hn : l.length = n) : ∃ ad, A = some ad ∧
    w'.cell? (ad.add (k * 4)) = some (.int .u64 (o.own : Int)) ∧ w'.cell? ⟨(ad.add (k * 4)).block, (ad.add (k * 4)).off + 1, none⟩ = some (.int .u64 (o.xmin : Int)) ∧ w'.cell? ⟨(ad.add (k * 4)).block, (ad.add (k * 4)).off + 2, none⟩ = some (.int .u64 (o.xmax : Int)) ∧ w'.cell? ⟨(ad.add (k * 4)).block, (ad.add (k * 4)).off + 3, none⟩ = some (.slice o.A o.n o.c) := by
  have hk := (List.getElem?_eq_some_iff.1 ho).1
  obtain ⟨ad, hA, hat⟩ := h.at_ (by omega)
  have key : ∀ j y, o.cells[j]? = some y → j < 4 → w'.cell? (ad.add (k * 4 + j)) = some y := fun j y hy hj => (hat.below hb).2 (k * 4 + j) y (by rw [svs_at l k o ho j hj]; exact hy)
  have e : ∀ j y, o.cells[j + 1]? = some y → j + 1 < 4 → w'.cell? ⟨(ad.add (k * 4)).block, (ad.add (k * 4)).off + (j + 1), none⟩ = some y := fun j y hy hj => by
    rw [← off_succ]
    exact key _ _ hy hj
  exact ⟨ad, hA, key 0 _ rfl (by omega), e 0 _ rfl (by omega), e 1 _ rfl (by omega), e 2 _ rfl (by omega)⟩
/-- the least of them, or how far numbers have come -/
def hzOf (nx : Nat) : List Nat → Nat
  | [] => nx
  | a :: l => (a :: l).foldl min a
theorem foldl_min_snoc (l : List Nat) (a y : Nat) : (l ++ [y]).foldl min a = min (l.foldl min a) y := by rw [List.foldl_append]; rfl
theorem foldl_min_le : ∀ (l : List Nat) (a : Nat), l.foldl min a ≤ a ∧ ∀ y ∈ l, l.foldl min a ≤ y
  | [], a => ⟨Nat.le_refl _, fun y hy => by cases hy⟩
  | b :: l, a => by
    obtain ⟨h1, h2⟩ := foldl_min_le l (min a b)
    refine ⟨Nat.le_trans h1 (Nat.min_le_left _ _), fun y hy => ?_⟩
    rcases List.mem_cons.1 hy with rfl | hy
    · exact Nat.le_trans h1 (Nat.min_le_right _ _)
    · exact h2 y hy
theorem foldl_min_gt {b : Nat} : ∀ (l : List Nat) (a : Nat), b < a → (∀ y ∈ l, b < y) → b < l.foldl min a
  | [], a, h, _ => h
  | y :: l, a, h, hl => foldl_min_gt l (min a y) (by have := hl y (by simp); omega) (fun z hz => hl z (by simp [hz]))
theorem hz_le {nx : Nat} {l : List Nat} {y : Nat} (h : y ∈ l) : hzOf nx l ≤ y := by
  cases l with
  | nil => cases h
  | cons a l => exact (foldl_min_le (a :: l) a).2 y h
theorem hz_gt {nx b : Nat} {l : List Nat} (h : ∀ y ∈ l, b < y) (h0 : b < nx) : b < hzOf nx l := by
  cases l with
  | nil => exact h0
  | cons a l => exact foldl_min_gt _ _ (h a (by simp)) h
set_option maxHeartbeats 2000000 in
theorem horizon_any {w : World} {F : Nat → Prop} {P f : Nat} {S : List Nat} (h : LF w F P f S) {l : List Sv} {A : Option Addr} {n c : Nat} (hl : l.length = n) (hs : Sl w w.heap.size 4 A n c (svs l)) :
    Calls Try.prog 14 #[.pointer (some ⟨P, 0, none⟩), .slice A n c] w fun e w' => e = .returned (.int .u64 (hzOf (f + S.length) (l.map Sv.xmin) : Int)) ∧ Below w.heap.size w w' := by
  have HS := Lib.hid hs
  have HL := Lib.hid hl
  have hcap := hs.cap
  have hle := hs.le
  unfold maxLen at hcap
  by_cases hn0 : n = 0
  · subst hn0
    have hl0 : l = [] := List.eq_nil_of_length_eq_zero hl
    subst hl0
    have CN := Lib.hid (next_any h)
    have HZ : Hid (hzOf (f + S.length) (([] : List Sv).map Sv.xmin) = f + S.length) := Lib.hid rfl
    rw [HZ.out]
    generalize f + S.length = nx at *
    clear hs hl h
    go_enter Try.func14, Try.ntmps14
    go_wp2_with fail
    refine CN.out.mono ?_
    rintro e w1 ⟨rfl, rfl⟩
    go_wp2_with fail
    go_ret
    exact ⟨rfl, Below.refl _ _⟩
  · obtain ⟨o0, ho0⟩ : ∃ o0, l[0]? = some o0 := ⟨_, List.getElem?_eq_getElem (by omega)⟩
    obtain ⟨ad, rfl, y0, y1, y2, y3⟩ := sv_cells hs (Below.refl _ _) ho0 hl
    have HZ : Hid (hzOf (f + S.length) (l.map Sv.xmin) = (l.map Sv.xmin).foldl min o0.xmin) := Lib.hid (by
      cases l with
      | nil => cases ho0
      | cons a l => simp at ho0; subst ho0; rfl)
    have e0 : ad.add (0 * 4) = ad := rfl
    rw [e0] at y0 y1 y2 y3
    rw [HZ.out]
    have hn1 : ((n : Int) == 0) = false := by rw [beq_eq_false_iff_ne]; omega
    have hn2 : 0 < n := by omega
    obtain ⟨m0, hm0⟩ : ∃ m0, o0.xmin = m0 := ⟨_, rfl⟩
    rw [hm0] at y1
    rw [hm0]
    clear hs hl h ho0 e0 hn0 hm0
    go_enter Try.func14, Try.ntmps14
    go_wp2_with fail
    clear y0 y1 y2 y3
    go_loopw [5, 19] (fun v i wr => ∃ k : Nat, k ≤ n ∧ i = .int .i64 k ∧ v = .int .u64 (((l.take k).map Sv.xmin).foldl min m0 : Nat) ∧ Below w.heap.size w wr) (fun _ i _ => n - (intOf i).toNat)
    case atStart => exact ⟨0, by omega, rfl, rfl, Below.refl _ _⟩
    case round =>
      obtain ⟨k, hk, rfl, rfl, hb⟩ := hrel
      have HB := Lib.hid hb
      clear hb
      by_cases hlt : k < n
      · have hlt' : (k : Int) < n := by omega
        obtain ⟨o, ho⟩ : ∃ o, l[k]? = some o := ⟨_, List.getElem?_eq_getElem (by have := HL.out; omega)⟩
        obtain ⟨ad', hA, y0, y1, y2, y3⟩ := sv_cells HS.out HB.out ho HL.out
        injection hA with hA
        subst hA
        have hm : (((l.take (k + 1)).map Sv.xmin).foldl min m0 : Nat) = min (((l.take k).map Sv.xmin).foldl min m0) o.xmin := by
          rw [show l.take (k + 1) = l.take k ++ [o] by rw [List.take_add_one, ho]; rfl, List.map_append]
          exact foldl_min_snoc _ _ _
        have HM := Lib.hid hm
        generalize ((l.take k).map Sv.xmin).foldl min m0 = m at *
        obtain ⟨ow, xm, xx, oA, on, oc⟩ := o
        have HB3 : Hid (Below w.heap.size w (wr.alloc (.cells #[.int .u64 (ow : Int), .int .u64 (xm : Int), .int .u64 (xx : Int), .slice oA on oc] 48))) := Lib.hid (bel_trans HB.out (bel_alloc _ _))
        clear ho hm
        rcases (show m ≤ xm ∨ ¬ m ≤ xm by omega) with hmx | hmx
        · have hmm : min (m : Int) (xm : Int) = (m : Int) := by omega
          have HMM : Hid (min m xm = m) := Lib.hid (by omega)
          go_wp2_with fail
          go_roundw
          case rel => exact ⟨k + 1, by omega, by go_num, by rw [HM.out, HMM.out], HB3.out⟩
          case measure => simp [intOf]; omega
        · have hmm : min (m : Int) (xm : Int) = (xm : Int) := by omega
          have HMM : Hid (min m xm = xm) := Lib.hid (by omega)
          go_wp2_with fail
          go_roundw
          case rel => exact ⟨k + 1, by omega, by go_num, by rw [HM.out, HMM.out], HB3.out⟩
          case measure => simp [intOf]; omega
      · obtain rfl : k = n := by omega
        have hm : l.take k = l := List.take_of_length_le (by have := HL.out; omega)
        have HM := Lib.hid hm
        clear hm
        go_wp2_with fail
        go_ret
        exact ⟨by rw [HM.out]; rfl, HB.out⟩
theorem tuple_any (w : World) (a b : Nat) : Calls Try.prog 16 #[.int .u64 (a : Int), .int .u64 (b : Int)] w fun e w' => e = .returned (.agg #[.int .u64 0, .int .u64 (a : Int), .int .u64 (b : Int), .int .i64 0, .int .i64 0, .slice none 0 0]) ∧ Below w.heap.size w w' := by
  have hp := Blk.new w 42 #[.int .u64 0, .int .u64 (a : Int), .int .u64 (b : Int), .int .i64 0, .int .i64 0, .slice none 0 0]
  go_enter Try.func16, Try.ntmps16
  go_wp2_with fail
  have s0 := hp.cell 0
  have s1 := hp.cell 1
  have s2 := hp.cell 2
  have s3 := hp.cell 3
  have s4 := hp.cell 4
  have s5 := hp.cell 5
  exact bodyPost_ret (v := .agg #[.int .u64 0, .int .u64 (a : Int), .int .u64 (b : Int), .int .i64 0, .int .i64 0, .slice none 0 0]) (by simp [results, Try.results16, go_sem, s0, s1, s2, s3, s4, s5]) rfl ⟨rfl, bel_alloc _ _⟩
section
variable {w0 w : World} {K : Nat → Prop} {P f : Nat} {S : List Nat}
theorem al_take (h : AL w0 w K P f S) (own : Nat) : Calls Try.prog 29 #[.pointer (some ⟨P, 0, none⟩), .int .u64 (own : Int)] w (TakeP w f S own) := by
  obtain ⟨F, h1, h2⟩ := h; exact take_any h1 own
theorem al_sees (h : AL w0 w K P f S) (hS : ∀ s ∈ S, 1 ≤ s ∧ s ≤ 3) {own xmin xmax : Nat} {run : List Nat} {A : Option Addr} {c : Nat} (hs : SlU w A c run) {x : Nat} (hx : x < 18446744073709551616) :
    Calls Try.prog 19 #[.pointer (some ⟨P, 0, none⟩), .agg #[.int .u64 (own : Int), .int .u64 (xmin : Int), .int .u64 (xmax : Int), .slice A run.length c], .int .u64 (x : Int)] w (BoolP w (seesB f S own xmax run x)) := by
  obtain ⟨F, h1, h2⟩ := h; exact sees_any h1 hS hs hx
theorem al_dead (h : AL w0 w K P f S) (hS : ∀ s ∈ S, 1 ≤ s ∧ s ≤ 3) {a b z : Nat} (ha : a < 18446744073709551616) (hb : b < 18446744073709551616) :
    Calls Try.prog 17 #[.pointer (some ⟨P, 0, none⟩), tupV a b, .int .u64 (z : Int)] w (BoolP w (deadB f S a b z)) := by
  obtain ⟨F, h1, h2⟩ := h; exact dead_any h1 hS ha hb
theorem al_horizon (h : AL w0 w K P f S) {l : List Sv} {A : Option Addr} {n c : Nat} (hl : l.length = n) (hs : Sl w w.heap.size 4 A n c (svs l)) :
    Calls Try.prog 14 #[.pointer (some ⟨P, 0, none⟩), .slice A n c] w fun e w' => e = .returned (.int .u64 (hzOf (f + S.length) (l.map Sv.xmin) : Int)) ∧ Below w.heap.size w w' := by
  obtain ⟨F, h1, h2⟩ := h; exact horizon_any h1 hl hs
end
theorem AL.newer {w0 w w' : World} {K : Nat → Prop} {P f : Nat} {S : List Nat} (h : AL w0 w K P f S) (hb : Below w.heap.size w w') : AL w0 w' (fun g => K g ∨ (w.heap.size ≤ g ∧ g < w'.heap.size)) P f S := by
  have h' := (h.below hb).1
  obtain ⟨F, h1, h2, h3, h4⟩ := h
  refine ⟨F, h1.below hb, h2, fun g hg => ?_, h'.bel⟩
  rcases hg with hg | hg
  · exact ⟨(h3 g hg).1, Nat.lt_of_lt_of_le (h3 g hg).2 hb.size⟩
  · exact ⟨fun hf => by have := h1.lt _ hf; omega, hg.2⟩
set_option maxHeartbeats 2000000 in
theorem awakeS_any (w : World) : Calls Try.prog 12 #[] w fun e w' => e = .returned (.bool true) ∧ Below w.heap.size w w' := by
  have CN := Lib.hid (al_new w 1 (by omega) (by omega) (Below.refl w.heap.size w))
  go_enter Try.func12, Try.ntmps12
  go_wp2_with fail
  refine CN.out.mono ?_
  rintro e w1 ⟨P, rfl, ha, _, _⟩
  have CB1 := Lib.hid (al_begin ha (by simp))
  clear ha
  go_wp2_with fail
  refine CB1.out.mono ?_
  rintro e w2 ⟨rfl, ha, _⟩
  have CB2 := Lib.hid (al_begin ha (by simp))
  clear ha
  go_wp2_with fail
  refine CB2.out.mono ?_
  rintro e w3 ⟨rfl, ha, _⟩
  have HA3 := Lib.hid ha
  have CT := Lib.hid (al_take ha 2)
  clear ha
  go_wp2_with fail
  refine CT.out.mono ?_
  rintro e w4 ⟨A4, c4, rfl, hs4, hn4, hb4⟩
  have e1 : xminOf 1 (([] ++ [1]) ++ [1]) 2 = 1 := by decide
  have e2 : runX 1 (([] ++ [1]) ++ [1]) 2 = [1] := by decide
  rw [e1, e2]
  rw [e2] at hs4 hn4
  obtain ⟨W4, hW4⟩ : ∃ W4, W4 = w4.alloc (.cells #[.int .u64 2, .int .u64 1, .int .u64 3, .slice A4 1 c4] 48) := ⟨_, rfl⟩
  have HA4 : Hid (AL w W4 (fun g => No g ∨ (w3.heap.size ≤ g ∧ g < W4.heap.size)) P 1 (([] ++ [1]) ++ [1])) := Lib.hid (HA3.out.newer (by rw [hW4]; exact hb4.alloc hb4.size _))
  have HK4 : Hid (Blk W4 w4.heap.size 48 #[.int .u64 2, .int .u64 1, .int .u64 3, .slice A4 1 c4]) := Lib.hid (by rw [hW4]; exact Blk.new w4 _ _)
  have HSS4 : Hid (SlU W4 A4 c4 [1]) := Lib.hid (by rw [hW4]; exact Sl.on hs4 (bel_alloc _ _))
  have HN4 : Hid (w3.heap.size ≤ w4.heap.size ∧ ∀ ad, A4 = some ad → w3.heap.size ≤ ad.block) := Lib.hid ⟨hb4.size, fun ad e => hn4 ad (by simp) e⟩
  have HW4 := Lib.hid hW4
  clear hs4 hn4 hb4 e1 e2 hW4
  go_wp2_with fail
  rw [← HW4.out]
  refine (al_commit HA4.out 1).mono ?_
  rintro e w5 ⟨rfl, ha5, hk5⟩
  have e1 : endS 1 (([] ++ [1]) ++ [1]) 1 2 = [2, 1] := by decide
  rw [e1] at ha5
  have hk4 : Blk w5 w4.heap.size 48 #[.int .u64 2, .int .u64 1, .int .u64 3, .slice A4 1 c4] := hk5.blk HK4.out (.inr ⟨HN4.out.1, HK4.out.lt⟩)
  obtain ⟨x0, x1, x2, x3⟩ := cells4 hk4
  have hs5 : SlU w5 A4 c4 [1] := HSS4.out.keep' (fun ad h0 e => by
    obtain ⟨ad', e', hat⟩ := Sl.at_ HSS4.out (by simp)
    rw [e] at e'
    injection e' with e'
    subst e'
    have hK : No ad.block ∨ (w3.heap.size ≤ ad.block ∧ ad.block < W4.heap.size) := .inr ⟨HN4.out.2 ad e, hat.1⟩
    obtain ⟨F, _, _, h3, _⟩ := ha5
    exact ⟨hk5 _ hK, (h3 _ hK).2⟩)
  have CS1 := al_sees ha5 (by decide) (own := 2) (xmin := 1) (xmax := 3) hs5 (x := 1) (by omega)
  have e2 : seesB 1 [2, 1] 2 3 [1] 1 = false := by decide
  rw [e2] at CS1
  have CS1 := Lib.hid CS1
  have HA5 := Lib.hid ha5
  clear ha5 e1 e2 hk4 hs5 hk5
  go_wp2_with fail
  refine CS1.out.mono ?_
  rintro e w6 ⟨rfl, hb6⟩
  have HA6 := Lib.hid (HA5.out.below hb6).1
  have CT2 := Lib.hid (al_take (HA5.out.below hb6).1 2)
  clear hb6
  go_wp2_with fail
  refine CT2.out.mono ?_
  rintro e w7 ⟨A7, c7, rfl, hs7, _, hb7⟩
  have e1 : xminOf 1 [2, 1] 2 = 3 := by decide
  have e2 : runX 1 [2, 1] 2 = [] := by decide
  have e3 : 1 + [2, 1].length = 3 := rfl
  rw [e1, e2, e3]
  rw [e2] at hs7
  have HA7 := (HA6.out.below hb7).1
  have CS2 := al_sees HA7 (by decide) (own := 2) (xmin := 3) (xmax := 3) hs7 (x := 1) (by omega)
  have e4 : seesB 1 [2, 1] 2 3 [] 1 = true := by decide
  rw [e4] at CS2
  have CS2 := Lib.hid CS2
  have HB7 := Lib.hid HA7.bel
  clear hs7 hb7 e1 e2 e3 e4 HA7
  go_wp2_with fail
  refine CS2.out.mono ?_
  rintro e w8 ⟨rfl, hb8⟩
  have HB8 := Lib.hid (HB7.out.trans (hb8.mono HB7.out.size))
  clear hb8
  go_wp2_with fail
  go_ret
  exact ⟨rfl, HB8.out⟩
end Go.Proofs.Ytnpmjljpaaaljaa.Clg
