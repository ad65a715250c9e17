/- package room: its map in memory; New, Set, Find, Get, Pages. -/
import Derived.Test.YtghlconkmbmflaaBase
namespace Go.Proofs.Ytghlconkmbmflaa.Room
open Go.RowKit Go.Proofs.Ytghlconkmbmflaa.Nums Go.Proofs.Ytghlconkmbmflaa.Mem
set_option linter.unusedVariables false
set_option linter.unusedSimpArgs false
set_option maxRecDepth 100000
theorem infoI : (Try.prog.info? 3).map (fun i => (i.zero, i.size, i.bytes)) = some (some (.int .i64 0), 1, 8) := by kernel_rfl
def ints (l : List Int) : List Value := l.map (Value.int .i64)
theorem ints_len (l : List Int) : (ints l).length = l.length := by simp [ints]
theorem ints_at {l : List Int} {k : Nat} {x : Int} (h : l[k]? = some x) : (ints l)[k]? = some (.int .i64 x) := by simp [ints, h]
theorem ints_app (a b : List Int) : ints (a ++ b) = ints a ++ ints b := by simp [ints]
theorem ints_one' (l : List Int) : ∀ u ∈ ints l, u.oneCell' = true := ints_one .i64 l
def OwnI (w : World) (B : Nat) (v : Value) (n : Nat) (xs : List Value) : Prop := w.ownsRow B 3 1 v n xs
theorem OwnI.alloc {w : World} {B : Nat} {v : Value} {n : Nat} {xs : List Value} (h : OwnI w B v n xs) (o : Obj) : OwnI (w.alloc o) B v n xs := World.ownsRow.alloc h o
theorem own_eqI {w : World} {B : Nat} {v : Value} {n n' : Nat} {xs xs' : List Value} (h : OwnI w B v n xs) (hn : n = n') (hx : xs = xs') : OwnI w B v n' xs' := by subst hn hx; exact h
theorem wpl_app_i {w : World} {ops : Array Oper} {rest : List Oper} {o : Oper} {a : Act} {Q : Exit → Act → World → Prop} (hgd : o.guard = none) (s x : Operand)
    (ho : o.op = .call { callee := .builtin .append, args := #[s, x], argTypes := #[27, 27] })
    (base : Nat) (v : Value) (n : Nat) (xs : List Value) (hs : a.eval s = v) (hown : OwnI w base v n xs)
    (B : Nat) (y : Value) (m : Nat) (news : List Value) (hy : a.eval x = y) (hx : Lies w B 1 y m news) (h1 : ∀ u ∈ news, u.oneCell' = true)
    (hbytes : n + m ≤ 1000000) (hbase : base ≤ w.heap.size)
    (h : ∀ v' w', OwnI w' base v' (n + m) (xs ++ news) → Kin w w' v v' → wpList Try.prog ops Q rest (a.put o.dst v') w') : wpList Try.prog ops Q (o :: rest) a w := by
  obtain ⟨i, hi, hz0, hz1, hz2⟩ := info_parts infoI
  exact wpList_plain hgd fun _ hK => wp_append_mem w s x _ ho base 3 i _ 1 8 Try.underlying27 hi hz0 hz1 hz2 rfl (by omega) v n xs hs hown B y m news hy hx h1 (by unfold maxLen; omega) (by omega) hbase fun v' w' h2 h3 => hK _ _ (h v' w' h2 h3)

/-- the map at block P (of type T): its slice, and the rooms L in it -/
structure MapAt (w : World) (base : Nat) (T : TypeId) (P : Nat) (A : Option Addr) (c : Nat) (L : List Int) : Prop where
  blk : Blk w P T #[.slice A L.length c]
  own : OwnI w base (.slice A L.length c) L.length (ints L)
  ge : base ≤ P
def clamp (r : Int) : Int := min (max r (-1)) 512
/-- what Set answers, and the rooms behind it -/
def setR (L : List Int) (p r : Int) : Int × List Int :=
  if p < 0 ∨ 256 ≤ p then (1, L) else if (L.length : Int) < p then (3, L) else if p = L.length then (0, L ++ [clamp r]) else (0, L.set p.toNat (clamp r))
theorem setR_len {L : List Int} {p r : Int} (h : L.length ≤ 256) : (setR L p r).2.length ≤ 256 := by
  unfold setR
  split
  · exact h
  split
  · exact h
  split
  · rw [List.length_append]; simp; omega
  · rw [List.length_set]; exact h
/-- the first of those from place k on that is at least m -/
def findAt (m : Int) : List Int → Nat → Int × Bool
  | [], _ => (0, false)
  | r :: l, k => if m ≤ r then ((k : Int), true) else findAt m l (k + 1)
def findR (L : List Int) (need : Int) : Int × Bool := findAt (max need 0) L 0
def getR (L : List Int) (p : Int) : Int := if p < 0 ∨ (L.length : Int) ≤ p then -1 else L.getD p.toNat (-1)
section
variable {w w' : World} {base P : Nat} {T : TypeId} {A : Option Addr} {c : Nat} {L : List Int}
theorem MapAt.le (h : MapAt w base T P A c L) : L.length ≤ c ∧ c ≤ maxLen := by
  obtain ⟨A', c', e, hs⟩ := Sl.of_own h.own
  injection e with _ _ e
  subst e
  exact ⟨hs.le, hs.cap⟩
theorem MapAt.cell (h : MapAt w base T P A c L) : w.cell? ⟨P, 0, none⟩ = some (.slice A L.length c) := h.blk.cell 0
theorem MapAt.frozen (h : MapAt w base T P A c L) : w.frozen? ⟨P, 0, none⟩ = false := h.blk.frozen 0
theorem MapAt.form (h : MapAt w base T P A c L) {k : Nat} (hk : k < L.length) : ∃ g, A = some ⟨g, 0, none⟩ ∧ w.cell? ⟨g, k, none⟩ = some (.int .i64 L[k]) ∧ w.frozen? ⟨g, k, none⟩ = false := by
  obtain ⟨g, cap, hv, _, _⟩ := World.ownsRow.form h.own (by omega)
  injection hv with hA _ hc
  subst hA hc
  refine ⟨g, rfl, ?_, World.ownsRow.frozenAt h.own k⟩
  rw [World.ownsRow.cellAt h.own k (by omega)]
  exact ints_at (List.getElem?_eq_getElem hk)
theorem MapAt.own_ge (h : MapAt w base T P A c L) : ∀ g, (Value.slice A L.length c).ownBlock = some g → base ≤ g := fun g hg => (World.ownsRow.lt h.own g hg).1
end
theorem new_any (w : World) : Calls Try.prog 8 #[] w fun e w' => e = .returned (.pointer (some ⟨w.heap.size, 0, none⟩)) ∧ w' = w.alloc (.cells #[.slice none 0 0] 49) := by
  go_enter Try.func8, Try.ntmps8
  go_wp2_with fail
  go_ret
  exact ⟨rfl, rfl⟩
theorem map_new (w : World) (T : TypeId) : MapAt (w.alloc (.cells #[.slice none 0 0] T)) w.heap.size T w.heap.size none 0 [] := ⟨Blk.new w T _, World.ownsRow_nil _ _ _ _, Nat.le_refl _⟩
theorem pages_any {w : World} {base P : Nat} {A : Option Addr} {c : Nat} {L : List Int} (h : MapAt w base 49 P A c L) :
    Calls Try.prog 15 #[.pointer (some ⟨P, 0, none⟩)] w fun e w' => e = .returned (.int .i64 L.length) ∧ w = w' := by
  have hc := h.cell
  clear h
  go_enter Try.func15, Try.ntmps15
  go_wp2_with fail
  go_ret
  exact ⟨rfl, rfl⟩
theorem get_any {w : World} {base P : Nat} {A : Option Addr} {c : Nat} {L : List Int} (h : MapAt w base 49 P A c L) (p : Int) :
    Calls Try.prog 13 #[.pointer (some ⟨P, 0, none⟩), .int .i64 p] w fun e w' => e = .returned (.int .i64 (getR L p)) ∧ w = w' := by
  have H := Lib.hid h
  have hc := h.cell
  have hle := h.le
  unfold maxLen at hle
  by_cases h0 : p < 0
  · have HG : Hid (getR L p = -1) := Lib.hid (if_pos (.inl h0))
    clear h
    go_enter Try.func13, Try.ntmps13
    go_wp2_with fail
    go_ret
    exact ⟨by rw [HG.out]; rfl, rfl⟩
  · obtain ⟨k, rfl⟩ : ∃ k : Nat, p = k := ⟨p.toNat, by omega⟩
    have h0' : decide ((k : Int) < 0) = false := by simp
    by_cases hk : k < L.length
    · obtain ⟨g, rfl, x0, _⟩ := h.form hk
      have HG : Hid (getR L k = L[k]) := Lib.hid (by unfold getR; rw [if_neg (by omega), Int.toNat_natCast, List.getD_eq_getElem?_getD, List.getElem?_eq_getElem hk]; rfl)
      have hk1 : ¬ (L.length : Int) ≤ k := by omega
      obtain ⟨x, hx⟩ : ∃ x, L[k] = x := ⟨_, rfl⟩
      rw [hx] at HG x0
      clear h hx
      go_enter Try.func13, Try.ntmps13
      go_wp2_with fail
      refine (pages_any H.out).mono ?_
      rintro e w' ⟨rfl, rfl⟩
      go_wp2_with fail
      go_ret
      exact ⟨by rw [HG.out]; rfl, rfl⟩
    · have HG : Hid (getR L k = -1) := Lib.hid (if_pos (.inr (by omega)))
      have hk1 : (L.length : Int) ≤ k := by omega
      clear h
      go_enter Try.func13, Try.ntmps13
      go_wp2_with fail
      refine (pages_any H.out).mono ?_
      rintro e w' ⟨rfl, rfl⟩
      go_wp2_with fail
      go_ret
      exact ⟨by rw [HG.out]; rfl, rfl⟩
theorem findAt_step {m : Int} {L : List Int} {k : Nat} {x : Int} (h : L[k]? = some x) : findAt m (L.drop k) k = if m ≤ x then ((k : Int), true) else findAt m (L.drop (k + 1)) (k + 1) := by
  obtain ⟨hk, e⟩ := List.getElem?_eq_some_iff.1 h
  rw [List.drop_eq_getElem_cons hk, e]
  rfl
theorem find_any {w : World} {base P : Nat} {A : Option Addr} {c : Nat} {L : List Int} (h : MapAt w base 49 P A c L) (need : Int) :
    Calls Try.prog 11 #[.pointer (some ⟨P, 0, none⟩), .int .i64 need] w fun e w' => e = .returned (.tuple #[.int .i64 (findR L need).1, .bool (findR L need).2]) ∧ w = w' := by
  have H := Lib.hid h
  have hc := h.cell
  have hle := h.le
  unfold maxLen at hle
  rcases (show (need < 0 ∧ max need 0 = 0) ∨ (¬ need < 0 ∧ max need 0 = need) by omega) with ⟨hn, hm⟩ | ⟨hn, hm⟩
  all_goals
    obtain ⟨m, hm'⟩ : ∃ m, max need 0 = m := ⟨_, rfl⟩
    have HF : Hid (findR L need = findAt m L 0) := Lib.hid (by unfold findR; rw [hm'])
    have HM := Lib.hid (hm.symm.trans hm')
    clear h hm hm'
    go_enter Try.func11, Try.ntmps11
    go_wp2_with fail
    refine (pages_any H.out).mono ?_
    rintro e w' ⟨rfl, rfl⟩
    rw [HM.out]
    go_wp2_with fail
    go_loop [11] (fun i => ∃ k : Nat, k ≤ L.length ∧ i = .int .i64 k ∧ findAt m L 0 = findAt m (L.drop k) k) (fun i => L.length - (intOf i).toNat)
    case atStart => exact ⟨0, by omega, rfl, rfl⟩
    case round =>
      obtain ⟨k, hk, rfl, hfk⟩ := hrel
      have HK := Lib.hid hfk
      clear hfk
      by_cases hlt : k < L.length
      · obtain ⟨g, rfl, x0, _⟩ := H.out.form hlt
        obtain ⟨x, hx⟩ : ∃ x, L[k] = x := ⟨_, rfl⟩
        have HX := Lib.hid (findAt_step (m := m) (show L[k]? = some x by rw [List.getElem?_eq_getElem hlt, hx]))
        rw [hx] at x0
        clear hx
        have hlt' : (k : Int) < L.length := by omega
        by_cases hmx : m ≤ x
        · have HY : Hid (findR L need = ((k : Int), true)) := Lib.hid (by rw [HF.out, HK.out, HX.out, if_pos hmx])
          go_wp2_with fail
          go_ret2
          exact ⟨by rw [HY.out]; rfl, rfl⟩
        · have HY : Hid (findAt m L 0 = findAt m (L.drop (k + 1)) (k + 1)) := Lib.hid (by rw [HK.out, HX.out, if_neg hmx])
          go_wp2_with fail
          go_round
          case rel => exact ⟨k + 1, by omega, by go_num, HY.out⟩
          case measure => simp [intOf]; omega
      · obtain rfl : k = L.length := by omega
        have HY : Hid (findR L need = (0, false)) := Lib.hid (by rw [HF.out, HK.out, List.drop_length]; rfl)
        go_wp2_with fail
        go_ret2
        exact ⟨by rw [HY.out]; rfl, rfl⟩
end Go.Proofs.Ytghlconkmbmflaa.Room
