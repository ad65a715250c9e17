/- SnapStays: what a snapshot sees stays; slices of bools in a slice. -/
import Derived.Test.YtnpmjljpaaaljaaSnapP
import Derived.Test.YtnpmjljpaaaljaaSnapT
namespace Go.Proofs.Ytnpmjljpaaaljaa.Clg
open Go.ChangeMaps Go.MapKept Go.RowKit Go.Proofs.Ytnpmjljpaaaljaa.Nums Go.Proofs.Ytnpmjljpaaaljaa.Mem
set_option linter.unusedVariables false
set_option linter.unusedSimpArgs false
set_option maxRecDepth 100000
theorem st_range {S : List Nat} (hok : ∀ t ∈ S, 1 ≤ t ∧ t ≤ 3) {x : Nat} (h1 : 1 ≤ x) (h2 : x < 1 + S.length) : 1 ≤ stOf 1 S x ∧ stOf 1 S x ≤ 3 := by
  have hg : S[x - 1]? = some S[x - 1] := List.getElem?_eq_getElem (by omega)
  have : stOf 1 S x = S[x - 1] := by
    unfold stOf
    rw [if_pos h1, List.getD_eq_getElem?_getD, hg]
    rfl
  rw [this]
  exact hok _ (List.getElem_mem _)
theorem sees_stays {S S' : List Nat} {s : Sp} (hs : s.of S) (hl : Later S S') {x : Nat} (hx : x ≠ s.own) : seesB 1 S' s.own s.xmax s.run x = seesB 1 S s.own s.xmax s.run x := by
  obtain ⟨S0, h0, h1, h2, h3, h4⟩ := hs
  unfold seesB
  rw [if_neg hx, if_neg hx]
  split
  · rfl
  · rename_i hm
    split
    · rfl
    · rename_i hf
      have hkey : stOf 1 S' x = stOf 1 S x := by
        by_cases hx0 : x = 0
        · rw [hx0, st_out (.inl (by omega)), st_out (.inl (by omega))]
        · have hr := st_range h4 (x := x) (by omega) (by omega)
          have hn : stOf 1 S0 x ≠ 1 := fun e => hf (by
            unfold foundB
            rw [h1]
            simp only [List.contains_eq_mem, decide_eq_true_eq]
            unfold runX
            rw [List.mem_filter]
            exact ⟨st_runs.2 e, by simpa using hx⟩)
          have a := h0.2 x (by omega)
          have b := hl.2 x (by omega)
          rw [b]
      rw [hkey]
def bls (b : Nat → Bool) (n : Nat) : List Value := (List.range n).map fun x => .bool (b x)
theorem bls_len (b : Nat → Bool) (n : Nat) : (bls b n).length = n := by simp [bls]
theorem bls_succ (b : Nat → Bool) (n : Nat) : bls b (n + 1) = bls b n ++ [.bool (b n)] := by simp [bls, List.range_succ]
theorem bls_at {b : Nat → Bool} {n x : Nat} (h : x < n) : (bls b n)[x]? = some (.bool (b x)) := by simp [bls, h]
theorem infoBo : (Try.prog.info? 4).map (fun i => (i.zero, i.size, i.bytes)) = some (some (.bool false), 1, 1) := by kernel_rfl
theorem infoBb : (Try.prog.info? 60).map (fun i => (i.zero, i.size, i.bytes)) = some (some (.slice none 0 0), 1, 24) := by kernel_rfl
theorem wpl_app_w {w : World} {ops : Array Oper} {rest : List Oper} {o : Oper} {a : Act} {Q : Exit → Act → World → Prop} (hgd : o.guard = none) (s x : Operand)
    (ho : o.op = .call { callee := .builtin .append, args := #[s, x], argTypes := #[59, 59] })
    (base : Nat) (v : Value) (n : Nat) (xs : List Value) (hs : a.eval s = v) (hown : w.ownsRow base 60 1 v n xs)
    (B : Nat) (y : Value) (m : Nat) (news : List Value) (hy : a.eval x = y) (hx : Lies w B 1 y m news) (h1 : ∀ u ∈ news, u.oneCell' = true)
    (hbytes : n + m ≤ 1000000) (hbase : base ≤ w.heap.size)
    (h : ∀ v' w', w'.ownsRow base 60 1 v' (n + m) (xs ++ news) → Kin w w' v v' → wpList Try.prog ops Q rest (a.put o.dst v') w') : wpList Try.prog ops Q (o :: rest) a w := by
  obtain ⟨i, hi, hz0, hz1, hz2⟩ := info_parts infoBb
  exact wpList_plain hgd fun _ hK => wp_append_mem w s x _ ho base 60 i _ 1 24 Try.underlying59 hi hz0 hz1 hz2 rfl (by omega) v n xs hs hown B y m news hy hx h1 (by unfold maxLen; omega) (by omega) hbase fun v' w' h2 h3 => hK _ _ (h v' w' h2 h3)
/-- what was seen, snapshot by snapshot -/
structure WS (w2 W : World) (t : Nat) (A : Option Addr) (c : Nat) (ws : List Value) (bq : Nat → Nat → Bool) : Prop where
  bel : Below w2.heap.size w2 W
  own : W.ownsRow w2.heap.size 60 1 (.slice A t c) t ws
  el : ∀ j, j < t → ∃ B d, ws[j]? = some (.slice B 60 d) ∧ W.ownsRow w2.heap.size 4 1 (.slice B 60 d) 60 (bls (bq j) 60)
section
variable {w2 W W' : World} {t c : Nat} {A : Option Addr} {ws : List Value} {bq : Nat → Nat → Bool}
theorem own_below {w w' : World} {b sz n : Nat} {e : TypeId} {v : Value} {xs : List Value} (h : w.ownsRow b e sz v n xs) (hb : Below w.heap.size w w') : w'.ownsRow b e sz v n xs := own_keep h fun g hg => hb.block g (World.ownsRow.lt h g hg).2
theorem WS.below (h : WS w2 W t A c ws bq) (hb : Below W.heap.size W W') : WS w2 W' t A c ws bq :=
  ⟨h.bel.trans (hb.mono h.bel.size), own_below h.own hb, fun j hj => by obtain ⟨B, d, e, ho⟩ := h.el j hj; exact ⟨B, d, e, own_below ho hb⟩⟩
theorem WS.app (h : WS w2 W t A c ws bq) {B : Option Addr} {d : Nat} (hn : W.ownsRow w2.heap.size 4 1 (.slice B 60 d) 60 (bls (bq t) 60)) {o : Obj} {v : Value} (ho : W'.ownsRow w2.heap.size 60 1 v (t + 1) (ws ++ [.slice B 60 d])) (hk : Kin (W.alloc o) W' (.slice A t c) v) :
    ∃ A' c', v = .slice A' (t + 1) c' ∧ WS w2 W' (t + 1) A' c' (ws ++ [.slice B 60 d]) bq := by
  obtain ⟨A', c', rfl, _⟩ := Sl.of_own ho
  have hlen : ws.length = t := by have := h.own.1; omega
  have hoa : (W.alloc o).ownsRow w2.heap.size 60 1 (.slice A t c) t ws := World.ownsRow.alloc h.own o
  have keep : ∀ {B d xs}, W.ownsRow w2.heap.size 4 1 (.slice B 60 d) 60 xs → W'.ownsRow w2.heap.size 4 1 (.slice B 60 d) 60 xs := fun {B d xs} h1 => by
    have h2 : (W.alloc o).ownsRow w2.heap.size 4 1 (.slice B 60 d) 60 xs := World.ownsRow.alloc h1 o
    exact own_keep h2 fun g hg => hk.1.block g (World.ownsRow.lt h2 g hg).2 (Ne.symm (own_ne_own hoa h2 (by decide) g hg))
  refine ⟨A', c', rfl, ?_, ho, fun j hj => ?_⟩
  · have h1 : Below w2.heap.size w2 (W.alloc o) := h.bel.alloc h.bel.size o
    exact h1.trans (hk.below h1.size fun g hg => (World.ownsRow.lt hoa g hg).1)
  · by_cases e : j < t
    · obtain ⟨B0, d0, e0, h0⟩ := h.el j e
      exact ⟨B0, d0, by rw [List.getElem?_append_left (by omega)]; exact e0, keep h0⟩
    · have ej : j = t := by omega
      subst ej
      exact ⟨B, d, by rw [List.getElem?_append_right (by omega), hlen, Nat.sub_self]; rfl, keep hn⟩
end
end Go.Proofs.Ytnpmjljpaaaljaa.Clg
