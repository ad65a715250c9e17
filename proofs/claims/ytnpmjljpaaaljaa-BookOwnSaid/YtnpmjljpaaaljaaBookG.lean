/- Slices of book's pointers; the one column; book.place, right, slices.Clone of columns. -/
import Derived.Test.YtnpmjljpaaaljaaBookF
namespace Go.Proofs.Ytnpmjljpaaaljaa.Bok
open Go.ChangeMaps Go.MapKept Go.RowKit Go.Proofs.Ytnpmjljpaaaljaa.Nums Go.Proofs.Ytnpmjljpaaaljaa.Mem Go.Proofs.Ytnpmjljpaaaljaa.Clg
set_option linter.unusedVariables false
set_option linter.unusedSimpArgs false
set_option maxRecDepth 100000
set_option maxHeartbeats 1000000
def ptrs (l : List Nat) : List Value := l.map fun g => Value.pointer (some ⟨g, 0, none⟩)
theorem ptrs_len (l : List Nat) : (ptrs l).length = l.length := by simp [ptrs]
theorem ptrs_at {l : List Nat} {k g : Nat} (h : l[k]? = some g) : (ptrs l)[k]? = some (.pointer (some ⟨g, 0, none⟩)) := by simp [ptrs, h]
theorem ptrs_app (a b : List Nat) : ptrs (a ++ b) = ptrs a ++ ptrs b := by simp [ptrs]
theorem ptrs_one (l : List Nat) : ∀ u ∈ ptrs l, u.oneCell' = true := by
  intro u hu
  simp only [ptrs, List.mem_map] at hu
  obtain ⟨b, _, rfl⟩ := hu
  rfl
/-- the k-th pointer of a slice of one's own -/
theorem own_at {w : World} {B n c k : Nat} {e : TypeId} {A : Option Addr} {l : List Nat} {g : Nat} (h : w.ownsRow B e 1 (.slice A n c) n (ptrs l)) (hk : l[k]? = some g) (hn : k < n) : ∃ d, A = some ⟨d, 0, none⟩ ∧ w.cell? ⟨d, k, none⟩ = some (.pointer (some ⟨g, 0, none⟩)) := by
  rcases h.2 with ⟨h1, h2⟩ | ⟨d, cap, cur, hv, hb, hg, hnc, hm, hs, ht⟩
  · exact absurd h2 (by omega)
  · injection hv with h1 h2 h3
    subst h1 h3
    have := h.cells (g := d) rfl k _ (ptrs_at hk)
    rw [add_flat] at this
    exact ⟨d, rfl, this⟩
theorem own_le {w : World} {B n c sz : Nat} {e : TypeId} {A : Option Addr} {xs : List Value} (h : w.ownsRow B e sz (.slice A n c) n xs) : n ≤ c ∧ c ≤ maxLen := by
  obtain ⟨A', c', hv, hs⟩ := Sl.of_own h
  injection hv with h1 _ h3
  subst h1 h3
  exact ⟨hs.le, hs.cap⟩
theorem infoPe : (Try.prog.info? 143).map (fun i => (i.zero, i.size, i.bytes)) = some (some (.pointer none), 1, 8) := by kernel_rfl
theorem wpl_app_pe {w : World} {ops : Array Oper} {rest : List Oper} {o : Oper} {a : Act} {Q : Exit → Act → World → Prop} (hgd : o.guard = none) (s x : Operand)
    (ho : o.op = .call { callee := .builtin .append, args := #[s, x], argTypes := #[144, 144] })
    (base : Nat) (v : Value) (n : Nat) (xs : List Value) (hs : a.eval s = v) (hown : w.ownsRow base 143 1 v n xs)
    (B : Nat) (y : Value) (m : Nat) (news : List Value) (hy : a.eval x = y) (hx : Lies w B 1 y m news) (h1 : ∀ u ∈ news, u.oneCell' = true)
    (hbytes : n + m ≤ 10000000000000) (hbase : base ≤ w.heap.size)
    (h : ∀ v' w', w'.ownsRow base 143 1 v' (n + m) (xs ++ news) → Kin w w' v v' → wpList Try.prog ops Q rest (a.put o.dst v') w') : wpList Try.prog ops Q (o :: rest) a w := by
  obtain ⟨i, hi, hz0, hz1, hz2⟩ := info_parts infoPe
  exact wpList_plain hgd fun _ hK => wp_append_mem w s x _ ho base 143 i _ 1 8 Try.underlying144 hi hz0 hz1 hz2 rfl (by omega) v n xs hs hown B y m news hy hx h1 (by unfold maxLen; omega) (by omega) hbase fun v' w' h2 h3 => hK _ _ (h v' w' h2 h3)
theorem infoPt : (Try.prog.info? 132).map (fun i => (i.zero, i.size, i.bytes)) = some (some (.pointer none), 1, 8) := by kernel_rfl
theorem wpl_app_pt {w : World} {ops : Array Oper} {rest : List Oper} {o : Oper} {a : Act} {Q : Exit → Act → World → Prop} (hgd : o.guard = none) (s x : Operand)
    (ho : o.op = .call { callee := .builtin .append, args := #[s, x], argTypes := #[126, 126] })
    (base : Nat) (v : Value) (n : Nat) (xs : List Value) (hs : a.eval s = v) (hown : w.ownsRow base 132 1 v n xs)
    (B : Nat) (y : Value) (m : Nat) (news : List Value) (hy : a.eval x = y) (hx : Lies w B 1 y m news) (h1 : ∀ u ∈ news, u.oneCell' = true)
    (hbytes : n + m ≤ 10000000000000) (hbase : base ≤ w.heap.size)
    (h : ∀ v' w', w'.ownsRow base 132 1 v' (n + m) (xs ++ news) → Kin w w' v v' → wpList Try.prog ops Q rest (a.put o.dst v') w') : wpList Try.prog ops Q (o :: rest) a w := by
  obtain ⟨i, hi, hz0, hz1, hz2⟩ := info_parts infoPt
  exact wpList_plain hgd fun _ hK => wp_append_mem w s x _ ho base 132 i _ 1 8 Try.underlying126 hi hz0 hz1 hz2 rfl (by omega) v n xs hs hown B y m news hy hx h1 (by unfold maxLen; omega) (by omega) hbase fun v' w' h2 h3 => hK _ _ (h v' w' h2 h3)
theorem infoPx : (Try.prog.info? 146).map (fun i => (i.zero, i.size, i.bytes)) = some (some (.pointer none), 1, 8) := by kernel_rfl
theorem wpl_app_px {w : World} {ops : Array Oper} {rest : List Oper} {o : Oper} {a : Act} {Q : Exit → Act → World → Prop} (hgd : o.guard = none) (s x : Operand)
    (ho : o.op = .call { callee := .builtin .append, args := #[s, x], argTypes := #[127, 127] })
    (base : Nat) (v : Value) (n : Nat) (xs : List Value) (hs : a.eval s = v) (hown : w.ownsRow base 146 1 v n xs)
    (B : Nat) (y : Value) (m : Nat) (news : List Value) (hy : a.eval x = y) (hx : Lies w B 1 y m news) (h1 : ∀ u ∈ news, u.oneCell' = true)
    (hbytes : n + m ≤ 10000000000000) (hbase : base ≤ w.heap.size)
    (h : ∀ v' w', w'.ownsRow base 146 1 v' (n + m) (xs ++ news) → Kin w w' v v' → wpList Try.prog ops Q rest (a.put o.dst v') w') : wpList Try.prog ops Q (o :: rest) a w := by
  obtain ⟨i, hi, hz0, hz1, hz2⟩ := info_parts infoPx
  exact wpList_plain hgd fun _ hK => wp_append_mem w s x _ ho base 146 i _ 1 8 Try.underlying127 hi hz0 hz1 hz2 rfl (by omega) v n xs hs hown B y m news hy hx h1 (by unfold maxLen; omega) (by omega) hbase fun v' w' h2 h3 => hK _ _ (h v' w' h2 h3)
/-- the column's name -/
def sA : ByteArray := ⟨#[97]⟩
theorem name_sA : nameB sA = true := name_yes (by decide) (by decide) (fun j hj => by
  obtain rfl : j = 0 := by have : sA.size = 1 := rfl; omega
  rw [ok_at (by decide)]
  decide)
/-- block g is a slice's of the one column -/
structure Col (w : World) (g c : Nat) : Prop where
  c0 : w.cell? ⟨g, 0, none⟩ = some (.string sA)
  c1 : w.cell? ⟨g, 1, none⟩ = some (.int .u8 1)
  lt : g < w.heap.size
  le : 1 ≤ c
  cap : c ≤ maxLen
  bk : ∃ cs, Blk w g 139 cs
theorem Col.keep {w w' : World} {g c : Nat} (h : Col w g c) (hk : w'.heap[g]? = w.heap[g]?) (hs : w.heap.size ≤ w'.heap.size) : Col w' g c :=
  ⟨(cell_same (a := ⟨g, 0, none⟩) hk).trans h.c0, (cell_same (a := ⟨g, 1, none⟩) hk).trans h.c1, Nat.lt_of_lt_of_le h.lt hs, h.le, h.cap, by obtain ⟨cs, h2⟩ := h.bk; exact ⟨cs, hk.trans h2⟩⟩
theorem Col.below {w w' : World} {g c : Nat} (h : Col w g c) (hb : Below w.heap.size w w') : Col w' g c := h.keep (hb.block g h.lt) hb.size
def ones : List Value := [.string sA, .int .u8 1]
theorem col_lies {w : World} {g c : Nat} (h : Col w g c) : Lies w w.heap.size 2 (.slice (some ⟨g, 0, none⟩) 1 c) 1 ones := by
  refine Lies.some_ ⟨h.lt, fun j u hu => ?_⟩ rfl h.le
  rw [add_flat]
  match j, hu with
  | 0, hu => simp [ones] at hu; subst hu; exact h.c0
  | 1, hu => simp [ones] at hu; subst hu; exact h.c1
  | j + 2, hu => simp [ones] at hu
theorem infoC : (Try.prog.info? 139).map (fun i => (i.zero, i.size, i.bytes)) = some (some (.agg #[.string ⟨#[]⟩, .int .u8 0]), 2, 24) := by kernel_rfl
theorem wpl_app_c {w : World} {ops : Array Oper} {rest : List Oper} {o : Oper} {a : Act} {Q : Exit → Act → World → Prop} (hgd : o.guard = none) (s x : Operand)
    (ho : o.op = .call { callee := .builtin .append, args := #[s, x], argTypes := #[81, 81] })
    (base : Nat) (v : Value) (n : Nat) (xs : List Value) (hs : a.eval s = v) (hown : w.ownsRow base 139 2 v n xs)
    (B : Nat) (y : Value) (m : Nat) (news : List Value) (hy : a.eval x = y) (hx : Lies w B 2 y m news) (h1 : ∀ u ∈ news, u.oneCell' = true)
    (hbytes : n + m ≤ 100000000000) (hbase : base ≤ w.heap.size)
    (h : ∀ v' w', w'.ownsRow base 139 2 v' (n + m) (xs ++ news) → Kin w w' v v' → wpList Try.prog ops Q rest (a.put o.dst v') w') : wpList Try.prog ops Q (o :: rest) a w := by
  obtain ⟨i, hi, hz0, hz1, hz2⟩ := info_parts infoC
  exact wpList_plain hgd fun _ hK => wp_append_mem w s x _ ho base 139 i _ 2 24 Try.underlying81 hi hz0 hz1 hz2 rfl (by omega) v n xs hs hown B y m news hy hx h1 (by unfold maxLen; omega) (by omega) hbase fun v' w' h2 h3 => hK _ _ (h v' w' h2 h3)
def plE (name : ByteArray) : Int := if name = sA then 0 else -1
theorem place1_any {w : World} {a : Addr} {name : ByteArray} (ha : w.cell? a = some (.string name)) (hl : a.block < w.heap.size) : Calls Try.prog 89 #[.agg #[.string sA, .int .u8 1], .pointer (some a)] w (BoolP w (decide (name = sA))) := by
  obtain ⟨T, hT⟩ : ∃ T, w.heap.size = T := ⟨_, rfl⟩
  obtain ⟨W1, hW1⟩ : ∃ W1, w.alloc (.cells #[.string sA, .int .u8 1] 139) = W1 := ⟨_, rfl⟩
  have hb1 : Below w.heap.size w W1 := by rw [← hW1]; exact bel_alloc _ _
  have hbT : Blk W1 T 139 #[.string sA, .int .u8 1] := by rw [← hW1, ← hT]; exact Blk.new w _ _
  have x0 : W1.cell? ⟨T, 0, none⟩ = some (.string sA) := hbT.cell 0
  have y0 : W1.cell? a = some (.string name) := (hb1.cell hl).trans ha
  have HB1 := Lib.hid hb1
  have HWS := Lib.hid (And.intro hW1 hT)
  clear hb1 hbT hW1 hT ha hl
  by_cases hq : name = sA
  · subst hq
    go_enter Try.func89, Try.ntmps89
    go_upto_region 1 with fail
    rw [HWS.out.1, HWS.out.2]
    go_wp2_with fail
    go_ret
    exact ⟨by simp, HB1.out⟩
  · have q1 : ¬ sA.toList = name.toList := str_ne (Ne.symm hq)
    have HR : Hid (decide (name = sA) = false) := Lib.hid (decide_eq_false hq)
    clear hq
    go_enter Try.func89, Try.ntmps89
    go_upto_region 1 with fail
    rw [HWS.out.1, HWS.out.2]
    go_wp2_with fail
    go_ret
    exact ⟨by rw [HR.out]; simp [q1], HB1.out⟩
theorem indexc_any {w : World} {g c : Nat} (h : Col w g c) {a : Addr} {name : ByteArray} (ha : w.cell? a = some (.string name)) (hl : a.block < w.heap.size) :
    Calls Try.prog 88 #[.slice (some ⟨g, 0, none⟩) 1 c, .func (.func 89) #[] #[.pointer (some a)]] w fun e w' => e = .returned (.int .i64 (plE name)) ∧ Below w.heap.size w w' := by
  have C1 := Lib.hid (place1_any ha hl)
  have x0 := h.c0
  have x1 := h.c1
  have hle := h.le
  have hcap := h.cap
  unfold maxLen at hcap
  by_cases hq : name = sA
  · have HR : Hid (plE name = 0) := Lib.hid (if_pos hq)
    rw [decide_eq_true hq] at C1
    clear h ha hl hq
    go_enter Try.func88, Try.ntmps88
    go_wp2_with fail
    go_loopw [8] (fun i wr => i = .int .i64 0 ∧ wr = w) (fun i _ => 0)
    case atStart => exact ⟨rfl, rfl⟩
    case round =>
      obtain ⟨rfl, rfl⟩ := hrel
      go_wp2_with fail
      refine C1.out.mono ?_
      rintro e w1 ⟨rfl, hb1⟩
      have HB1 := Lib.hid hb1
      clear hb1
      go_wp2_with fail
      go_ret
      exact ⟨by rw [HR.out]; rfl, HB1.out⟩
  · have HR : Hid (plE name = -1) := Lib.hid (if_neg hq)
    rw [decide_eq_false hq] at C1
    have HX := Lib.hid (And.intro x0 x1)
    clear h ha hl hq x0 x1
    go_enter Try.func88, Try.ntmps88
    go_wp2_with fail
    go_loopw [8] (fun i wr => ∃ k : Nat, k ≤ 1 ∧ i = .int .i64 k ∧ Below w.heap.size w wr ∧ (k = 0 → wr = w)) (fun i _ => 1 - (intOf i).toNat)
    case atStart => exact ⟨0, by omega, rfl, Below.refl _ _, fun _ => rfl⟩
    case round =>
      obtain ⟨k, hk, rfl, hb, h0⟩ := hrel
      have HB := Lib.hid hb
      clear hb
      by_cases hk0 : k = 0
      · subst hk0
        obtain rfl := h0 rfl
        obtain ⟨x0, x1⟩ := HX.out
        clear h0 hk
        go_wp2_with fail
        refine C1.out.mono ?_
        rintro e w1 ⟨rfl, hb1⟩
        have HB1 := Lib.hid hb1
        clear hb1
        go_wp2_with fail
        go_roundw
        case rel => exact ⟨1, by omega, rfl, HB1.out, fun h => absurd h (by omega)⟩
        case measure => simp [intOf]
      · obtain rfl : k = 1 := by omega
        clear h0 hk hk0
        go_wp2_with fail
        go_ret
        exact ⟨by rw [HR.out]; rfl, HB.out⟩
theorem place_any {w : World} {g c : Nat} (h : Col w g c) (name : ByteArray) : Calls Try.prog 67 #[.slice (some ⟨g, 0, none⟩) 1 c, .string name] w fun e w' => e = .returned (.int .i64 (plE name)) ∧ Below w.heap.size w w' := by
  obtain ⟨T, hT⟩ : ∃ T, w.heap.size = T := ⟨_, rfl⟩
  obtain ⟨W1, hW1⟩ : ∃ W1, w.alloc (.cells #[.string name] 9) = W1 := ⟨_, rfl⟩
  have hb1 : Below w.heap.size w W1 := by rw [← hW1]; exact bel_alloc _ _
  have hbT : Blk W1 T 9 #[.string name] := by rw [← hW1, ← hT]; exact Blk.new w _ _
  have CI := Lib.hid (indexc_any (h.below hb1) (a := ⟨T, 0, none⟩) (name := name) (hbT.cell 0) hbT.lt)
  have HB1 := Lib.hid hb1
  have HWS := Lib.hid (And.intro hW1 hT)
  clear h hb1 hbT hW1 hT
  go_enter Try.func67, Try.ntmps67
  go_upto_region 1 with fail
  rw [HWS.out.1, HWS.out.2]
  go_wp2_with fail
  refine CI.out.mono ?_
  rintro e w2 ⟨rfl, hb2⟩
  have HB2 := Lib.hid (HB1.out.trans (hb2.mono HB1.out.size))
  clear hb2
  go_wp2_with fail
  go_ret
  exact ⟨rfl, HB2.out⟩
theorem right_one {w : World} {g c : Nat} (h : Col w g c) : Calls Try.prog 59 #[.slice (some ⟨g, 0, none⟩) 1 c] w (BoolP w true) := by
  obtain ⟨T, hT⟩ : ∃ T, w.heap.size = T := ⟨_, rfl⟩
  obtain ⟨W1, hW1⟩ : ∃ W1, w.alloc (.cells #[.string sA, .int .u8 1] 139) = W1 := ⟨_, rfl⟩
  have hb1 : Below w.heap.size w W1 := by rw [← hW1]; exact bel_alloc _ _
  have hbT : Blk W1 T 139 #[.string sA, .int .u8 1] := by rw [← hW1, ← hT]; exact Blk.new w _ _
  have HBT : Hid (W1.cell? ⟨T, 0, none⟩ = some (.string sA) ∧ W1.cell? ⟨T, 1, none⟩ = some (.int .u8 1)) := Lib.hid ⟨hbT.cell 0, hbT.cell 1⟩
  have CN := name_any sA W1 (by decide)
  rw [name_sA] at CN
  have CN := Lib.hid CN
  have CP := place_any (h.below hb1) sA
  have e0 : plE sA = 0 := if_pos rfl
  rw [e0] at CP
  have CP := Lib.hid CP
  have HX := Lib.hid (And.intro h.c0 h.c1)
  have hle := h.le
  have hcap := h.cap
  unfold maxLen at hcap
  have HB1 := Lib.hid hb1
  have HWS := Lib.hid (And.intro hW1 hT)
  clear h hb1 hbT hW1 hT e0
  go_enter Try.func59, Try.ntmps59
  go_wp2_with fail
  go_loopw [15] (fun i wr => ∃ k : Nat, k ≤ 1 ∧ i = .int .i64 k ∧ Below w.heap.size w wr ∧ (k = 0 → wr = w)) (fun i _ => 1 - (intOf i).toNat)
  case atStart => exact ⟨0, by omega, rfl, Below.refl _ _, fun _ => rfl⟩
  case round =>
    obtain ⟨k, hk, rfl, hb, h0⟩ := hrel
    have HB := Lib.hid hb
    clear hb
    by_cases hk0 : k = 0
    · subst hk0
      obtain rfl := h0 rfl
      obtain ⟨x0, x1⟩ := HX.out
      clear h0 hk
      go_upto_region 6 with fail
      rw [HWS.out.1, HWS.out.2]
      clear x0 x1
      obtain ⟨y0, y1⟩ := HBT.out
      go_wp2_with fail
      refine CN.out.mono ?_
      rintro e w1 ⟨rfl, rfl⟩
      go_wp2_with fail
      refine CP.out.mono ?_
      rintro e w1 ⟨rfl, hb1⟩
      have HB2 := Lib.hid (HB1.out.trans (hb1.mono HB1.out.size))
      clear hb1
      go_wp2_with fail
      go_roundw
      case rel => exact ⟨1, by omega, rfl, HB2.out, fun h => absurd h (by omega)⟩
      case measure => simp [intOf]
    · obtain rfl : k = 1 := by omega
      clear h0 hk hk0
      go_wp2_with fail
      go_ret
      exact ⟨rfl, HB.out⟩
/-- a column of one's own, as a result -/
def ColP (w : World) (e : Ending) (w' : World) : Prop := ∃ g c, e = .returned (.slice (some ⟨g, 0, none⟩) 1 c) ∧ Col w' g c ∧ w.heap.size ≤ g ∧ Below w.heap.size w w'
theorem own_col {w : World} {B c : Nat} {A : Option Addr} (h : w.ownsRow B 139 2 (.slice A 1 c) 1 ones) : ∃ g, A = some ⟨g, 0, none⟩ ∧ Col w g c ∧ B ≤ g := by
  have hl := own_le h
  rcases h.2 with ⟨h1, h2⟩ | ⟨d, cap, cur, hv, hb, hg, hnc, hm, hs, ht⟩
  · exact absurd h2 (by omega)
  · injection hv with h1 h2 h3
    subst h1 h3
    have hc := h.cells (g := d) rfl
    have h0 := hc 0 _ rfl
    have h1 := hc 1 _ rfl
    rw [add_flat] at h0 h1
    exact ⟨d, rfl, ⟨h0, h1, (Array.getElem?_eq_some_iff.1 hg).1, hl.1, hl.2, ⟨_, hg⟩⟩, hb⟩
theorem nilC (a : Addr) (n c : Nat) (w : World) : (binOp .eql 81 (.slice (some a) n c) (.slice none 0 0)).run Try.prog w = .ok (.bool false) w := Lib.run_eql_slice_some_nil w _ _ _ Try.underlying81
attribute [local go_sem] nilC
theorem clonec_any {w : World} {g c : Nat} (h : Col w g c) : Calls Try.prog 62 #[.slice (some ⟨g, 0, none⟩) 1 c] w (ColP w) := by
  have HO : Hid ((w.alloc (.cells #[] 139)).ownsRow w.heap.size 139 2 (.slice (some ⟨w.heap.size, 0, none⟩) 0 0) 0 []) := Lib.hid ⟨rfl, .inr ⟨w.heap.size, 0, #[], rfl, Nat.le_refl _, Blk.new w _ _, Nat.le_refl _, by unfold maxLen; omega, rfl, rfl⟩⟩
  have HLI := Lib.hid (col_lies (h.below (bel_alloc w (.cells #[] 139))))
  clear h
  go_enter Try.func62, Try.ntmps62
  go_wp2_with (at_builtin; go_loud (refine wpl_app_c rfl (.tmp 5) (.tmp 6) rfl w.heap.size _ 0 [] rfl HO.out _ _ 1 ones rfl HLI.out (fun u hu => by simp [ones] at hu; rcases hu with rfl | rfl <;> rfl) (by omega) (by rw [size_alloc]; omega) ?_; intro v1 w1 hown1 hg1; obtain ⟨A1, c1, hv1, _⟩ := Sl.of_own hown1; subst hv1))
  go_ret
  rw [Nat.zero_add, List.nil_append] at hown1
  obtain ⟨g1, rfl, hc, hge⟩ := own_col hown1
  refine ⟨g1, c1, rfl, hc, hge, (bel_alloc _ _).trans (hg1.below (by rw [size_alloc]; omega) (fun k hk => ?_))⟩
  exact (World.ownsRow.lt HO.out k hk).1
theorem one_any (w : World) : Calls Try.prog 35 #[] w (ColP w) := by
  have hb := Blk.new w 139 #[.string sA, .int .u8 1]
  have HC : Hid (Col (w.alloc (.cells #[.string sA, .int .u8 1] 139)) w.heap.size 1) := Lib.hid ⟨hb.cell 0, hb.cell 1, hb.lt, Nat.le_refl _, by unfold maxLen; omega, ⟨_, hb⟩⟩
  clear hb
  go_enter Try.func35, Try.ntmps35
  go_wp2_with fail
  go_ret
  exact ⟨w.heap.size, 1, rfl, HC.out, Nat.le_refl _, bel_alloc _ _⟩
end Go.Proofs.Ytnpmjljpaaaljaa.Bok
