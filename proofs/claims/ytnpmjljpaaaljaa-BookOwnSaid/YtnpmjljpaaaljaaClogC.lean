/- package slices at numbers of 64 bits: Clone, Delete; many cells of a block that is known whole. -/
import Derived.Test.YtnpmjljpaaaljaaClogB
import Derived.Lib.BufferMore
namespace Go.Proofs.Ytnpmjljpaaaljaa.Clg
open Go.RowKit Go.Proofs.Ytnpmjljpaaaljaa.Nums Go.Proofs.Ytnpmjljpaaaljaa.Mem
set_option linter.unusedVariables false
set_option linter.unusedSimpArgs false
set_option maxRecDepth 100000
def putA (cs : Array Value) : Nat → List Value → Array Value
  | _, [] => cs
  | o, v :: vs => putA (cs.setIfInBounds o v) (o + 1) vs
theorem putA_size : ∀ (vs : List Value) (cs : Array Value) (o : Nat), (putA cs o vs).size = cs.size
  | [], cs, o => rfl
  | v :: vs, cs, o => by show (putA _ _ vs).size = _; rw [putA_size vs]; simp
theorem putA_at : ∀ (vs : List Value) (cs : Array Value) (o k : Nat), o + vs.length ≤ cs.size → (putA cs o vs)[k]? = if o ≤ k ∧ k < o + vs.length then vs[k - o]? else cs[k]?
  | [], cs, o, k, _ => by show cs[k]? = _; rw [if_neg (by simp)]
  | v :: vs, cs, o, k, h => by
    rw [List.length_cons] at h
    show (putA (cs.setIfInBounds o v) (o + 1) vs)[k]? = _
    rw [putA_at vs _ _ k (by simp; omega), List.length_cons]
    by_cases h1 : k = o
    · subst h1
      rw [if_neg (by omega), if_pos (by omega), Nat.sub_self, Array.getElem?_setIfInBounds_self_of_lt (by omega)]
      rfl
    · by_cases h2 : o + 1 ≤ k ∧ k < o + 1 + vs.length
      · rw [if_pos h2, if_pos (by omega), show k - o = (k - (o + 1)) + 1 by omega, List.getElem?_cons_succ]
      · rw [if_neg h2, if_neg (by omega), Array.getElem?_setIfInBounds_ne (Ne.symm h1)]
theorem blk_put {g : Nat} {t : TypeId} : ∀ (vs : List Value) (o : Nat) {w : World} {cs : Array Value}, Blk w g t cs → Blk (w.setCells g o vs) g t (putA cs o vs)
  | [], o, w, cs, h => h
  | v :: vs, o, w, cs, h => blk_put vs (o + 1) (h.set_ o v)
/-- only blocks of F have turned, and there are new ones -/
structure Turn (F : Nat → Prop) (w w' : World) : Prop where
  os : w'.os = w.os
  tape : w'.tape = w.tape
  output : w'.output = w.output
  size : w.heap.size ≤ w'.heap.size
  block : ∀ k, k < w.heap.size → ¬ F k → w'.heap[k]? = w.heap[k]?
section
variable {F G : Nat → Prop} {w w' a b c : World} {g : Nat}
theorem Turn.refl (F : Nat → Prop) (w : World) : Turn F w w := ⟨rfl, rfl, rfl, Nat.le_refl _, fun _ _ _ => rfl⟩
theorem Turn.trans (h : Turn F a b) (k : Turn F b c) : Turn F a c :=
  ⟨k.os.trans h.os, k.tape.trans h.tape, k.output.trans h.output, Nat.le_trans h.size k.size, fun i hi hf => (k.block i (Nat.lt_of_lt_of_le hi h.size) hf).trans (h.block i hi hf)⟩
theorem Turn.of_below (h : Below w.heap.size w w') : Turn F w w' := ⟨h.os, h.tape, h.output, h.size, fun k hk _ => h.block k hk⟩
theorem Turn.mono (h : Turn F w w') (hG : ∀ g, g < w.heap.size → F g → G g) : Turn G w w' := ⟨h.os, h.tape, h.output, h.size, fun k hk hg => h.block k hk (fun hf => hg (hG k hk hf))⟩
theorem Turn.set_ (h : Turn F a w) {p : Addr} (hp : F p.block ∨ a.heap.size ≤ p.block) (u : Value) : Turn F a (w.setCell p u) := by
  have hs : (w.setCell p u).heap.size = w.heap.size := by simp [World.setCell]
  refine ⟨h.os, h.tape, h.output, by rw [hs]; exact h.size, fun k hk hf => (Below.heap_setCell w _ _ k (fun e => ?_)).trans (h.block k hk hf)⟩
  rcases hp with hp | hp
  · exact hf (e ▸ hp)
  · omega
theorem Turn.alloc (h : Turn F a w) (o : Obj) : Turn F a (w.alloc o) := h.trans (Turn.of_below (bel_alloc w o))
theorem Turn.kin {v v' : Value} (h : Turn F a w) (k : Kin w w' v v') (hv : ∀ g, v.ownBlock = some g → F g ∨ a.heap.size ≤ g) : Turn F a w' :=
  ⟨k.1.os.trans h.os, k.1.tape.trans h.tape, k.1.output.trans h.output, Nat.le_trans h.size k.1.size, fun i hi hf => (k.1.block i (Nat.lt_of_lt_of_le hi h.size) (fun e => by rcases hv i e.symm with h1 | h1; exact hf h1; omega)).trans (h.block i hi hf)⟩
theorem Turn.drewN (h : Turn F w w') (n : Nat) : Turn F w (w'.drewN n) := ⟨h.os, h.tape, h.output, h.size, h.block⟩
theorem Turn.below {B : Nat} (h : Turn F w w') (hB : B ≤ w.heap.size) (hF : ∀ g, F g → B ≤ g) : Below B w w' := ⟨h.os, h.tape, h.output, h.size, fun k hk => h.block k (by omega) (fun hf => by have := hF k hf; omega)⟩
theorem Turn.blk {t : TypeId} {cs : Array Value} (h : Turn F w w') (hb : Blk w g t cs) (hg : ¬ F g) : Blk w' g t cs := (h.block g hb.lt hg).trans hb
end
/-- F, and all that is new -/
def New (F : Nat → Prop) (w w' : World) : Nat → Prop := fun g => F g ∨ (w.heap.size ≤ g ∧ g < w'.heap.size)
theorem Turn.on {F : Nat → Prop} {a b c : World} (h : Turn F a b) (k : Turn (New F a b) b c) : Turn F a c :=
  ⟨k.os.trans h.os, k.tape.trans h.tape, k.output.trans h.output, Nat.le_trans h.size k.size, fun i hi hf => (k.block i (Nat.lt_of_lt_of_le hi h.size) (fun hn => by rcases hn with hn | hn; exact hf hn; omega)).trans (h.block i hi hf)⟩
theorem turn_put {F : Nat → Prop} {g : Nat} (hg : F g) : ∀ (vs : List Value) (o : Nat) {w w0 : World}, Turn F w0 w → Turn F w0 (w.setCells g o vs)
  | [], o, w, w0, h => h
  | v :: vs, o, w, w0, h => turn_put hg vs (o + 1) (h.set_ (.inl hg) _)
theorem nilU (w : World) : (binOp .eql 46 (.slice none 0 0) (.slice none 0 0)).run Try.prog w = .ok (.bool true) w := Lib.run_eql_slice_nil_nil w _ _ Try.underlying46
theorem someU (a : Addr) (n c : Nat) (w : World) : (binOp .eql 46 (.slice (some a) n c) (.slice none 0 0)).run Try.prog w = .ok (.bool false) w := Lib.run_eql_slice_some_nil w _ _ _ Try.underlying46
attribute [local go_sem] nilU someU
theorem own_empty (w : World) : OwnU (w.alloc (.cells #[] 28)) w.heap.size (.slice (some ⟨w.heap.size, 0, none⟩) 0 0) 0 [] :=
  ⟨rfl, .inr ⟨w.heap.size, 0, #[], rfl, Nat.le_refl _, Blk.new w _ _, Nat.le_refl _, by unfold maxLen; omega, rfl, rfl⟩⟩
/-- a list of numbers in memory of one's own, as a result -/
def NewU (w : World) (R : List Nat) (e : Ending) (w' : World) : Prop := ∃ A c, e = .returned (.slice A R.length c) ∧ OwnU w' w.heap.size (.slice A R.length c) R.length (u64s R) ∧ Below w.heap.size w w'
theorem clone_any {w : World} {A : Option Addr} {c : Nat} {R : List Nat} (hs : SlU w A c R) (hbig : R.length < 10000000000000) :
    Calls Try.prog 82 #[.slice A R.length c] w (NewU w R) := by
  have HS := Lib.hid hs
  have hle := hs.le
  have hnil := hs.nil
  obtain ⟨n, hn⟩ : ∃ n, R.length = n := ⟨_, rfl⟩
  have HN := Lib.hid hn
  rw [hn] at hle hbig
  rw [hn]
  cases A with
  | none =>
    obtain rfl : c = 0 := hnil rfl
    obtain rfl : n = 0 := by omega
    have HR : Hid (R = []) := Lib.hid (List.eq_nil_of_length_eq_zero hn)
    clear hs hn hnil
    go_enter Try.func82, Try.ntmps82
    go_wp2_with fail
    go_ret
    rw [HR.out]
    exact ⟨none, 0, rfl, World.ownsRow_nil _ _ _ _, Below.refl _ _⟩
  | some ad =>
    have HO := Lib.hid (own_empty w)
    have HLI : Hid (Lies (w.alloc (.cells #[] 28)) (w.heap.size + 1) 1 (.slice (some ad) n c) n (u64s R)) := Lib.hid (by have := (hs.on (bel_alloc w (.cells #[] 28))).lies; rw [size_alloc, hn] at this; exact this)
    clear hs hn hnil
    go_enter Try.func82, Try.ntmps82
    go_wp2_with (at_builtin; go_loud (refine wpl_app_u rfl (.tmp 5) (.tmp 6) rfl w.heap.size _ 0 [] rfl HO.out _ _ n _ rfl HLI.out (u64s_one _) (by omega) (by rw [size_alloc]; omega) ?_; intro v1 w1 hown1 hg1; obtain ⟨A1, c1, hv1, _⟩ := Sl.of_own hown1; subst hv1))
    go_ret
    have e := HN.out
    subst e
    have hown2 := own_eqU hown1 (Nat.zero_add _) (List.nil_append _)
    rw [Nat.zero_add] at hown2
    refine ⟨A1, c1, rfl, hown2, (bel_alloc _ _).trans (hg1.below (by rw [size_alloc]; omega) (fun k hk => ?_))⟩
    have := (World.ownsRow.lt HO.out k hk).1
    exact this
theorem own_parts {w : World} {B n : Nat} {A : Option Addr} {c : Nat} {xs : List Value} (h : OwnU w B (.slice A n c) n xs) (hn : 0 < n) : ∃ g cur, A = some ⟨g, 0, none⟩ ∧ B ≤ g ∧ Blk w g 28 cur ∧ n ≤ c ∧ c ≤ maxLen ∧ cur.size = c ∧ cur.toList.take n = xs := by
  rcases h.2 with ⟨_, h0⟩ | ⟨g, cap, cur, hv, hb, hg, hc, hm, hs, ht⟩
  · omega
  · injection hv with h1 _ h3
    subst h1 h3
    exact ⟨g, cur, rfl, hb, hg, hc, hm, by rw [hs, Nat.mul_one], by rw [Nat.mul_one] at ht; exact ht⟩
/-- what Delete makes of the array -/
def delA (cur : Array Value) (i n : Nat) (R : List Nat) : Array Value := putA (putA cur i (u64s (R.drop (i + 1)))) (n - 1) (List.replicate 1 (.int .u64 0))
theorem delA_take {cur : Array Value} {i n : Nat} {R : List Nat} (hn : R.length = n) (hi : i < n) (hs : n ≤ cur.size) (ht : cur.toList.take n = u64s R) : (delA cur i n R).toList.take (n - 1) = u64s (R.take i ++ R.drop (i + 1)) := by
  have hc : ∀ k, k < n → cur[k]? = (u64s R)[k]? := fun k hk => by rw [← ht, List.getElem?_take, if_pos hk, Array.getElem?_toList]
  have hl : (u64s (R.drop (i + 1))).length = n - (i + 1) := by rw [u64s_len, List.length_drop, hn]
  apply List.ext_getElem?
  intro k
  rw [List.getElem?_take]
  by_cases hk : k < n - 1
  · rw [if_pos hk, Array.getElem?_toList]
    unfold delA
    rw [putA_at _ _ _ _ (by rw [putA_size]; simp; omega), if_neg (by simp; omega), putA_at _ _ _ _ (by rw [hl]; omega), hl]
    by_cases h1 : i ≤ k
    · rw [if_pos (by omega), u64s_app, List.getElem?_append_right (by rw [u64s_len, List.length_take]; omega), u64s_len, List.length_take]
      congr 1
      omega
    · rw [if_neg (by omega), hc k (by omega), u64s_app, List.getElem?_append_left (by rw [u64s_len, List.length_take]; omega)]
      unfold u64s
      rw [List.getElem?_map, List.getElem?_map, List.getElem?_take, if_pos (by omega)]
  · rw [if_neg hk, List.getElem?_eq_none]
    rw [u64s_len, List.length_append, List.length_take, List.length_drop]
    omega
set_option maxHeartbeats 1000000 in
theorem del_at {w : World} {B c i j n : Nat} {A : Option Addr} {R : List Nat} (hn : R.length = n) (h : OwnU w B (.slice A n c) n (u64s R)) (hi : i < n) (hj : j = i + 1) :
    Calls Try.prog 78 #[.slice A n c, .int .i64 (i : Int), .int .i64 (j : Int)] w fun e w' =>
      e = .returned (.slice A (n - 1 : Nat) c) ∧ OwnU w' B (.slice A (n - 1 : Nat) c) (n - 1) (u64s (R.take i ++ R.drop (i + 1))) ∧ Turn (fun g => (Value.slice A n c).ownBlock = some g) w w' := by
  obtain ⟨g, cur, rfl, hB, hb, hc, hm, hs, ht⟩ := own_parts h (by omega)
  have hh : ∀ k, k < n → ∃ y, R[k]? = some y ∧ w.cell? ⟨g, k, none⟩ = some (.int .u64 (y : Int)) := fun k hk => by
    obtain ⟨y, hy⟩ : ∃ y, R[k]? = some y := ⟨_, List.getElem?_eq_getElem (by omega)⟩
    refine ⟨y, hy, ?_⟩
    rw [hb.cell, ← u64s_at hy, ← ht, List.getElem?_take, if_pos hk, Array.getElem?_toList]
  obtain ⟨inf, hinf, hz0, hz1, hz2⟩ := info_parts infoU
  obtain ⟨news, hnews⟩ : ∃ news, news = u64s (R.drop (j)) := ⟨_, rfl⟩
  have hlen : news.length = n - (j) := by rw [hnews, u64s_len, List.length_drop, hn]
  obtain ⟨Ad, hA, hsrc⟩ : ∃ Ad : Addr, (if c = j then some (⟨g, 0, none⟩ : Addr) else some ⟨g, j, none⟩) = some Ad ∧ Hid (∀ t u, news[t]? = some u → w.drew.cell? (Ad.add t) = some u) := by
    by_cases hci : c = j
    · refine ⟨⟨g, 0, none⟩, by simp [hci], Lib.hid fun t u hu => ?_⟩
      have := (List.getElem?_eq_some_iff.1 hu).1
      omega
    · refine ⟨⟨g, j, none⟩, by simp [hci], Lib.hid fun t u hu => ?_⟩
      have h1 := (List.getElem?_eq_some_iff.1 hu).1
      obtain ⟨y, hy, hcell⟩ := hh (j + t) (by omega)
      rw [hnews] at hu
      have h2 : (u64s (R.drop (j)))[t]? = some (.int .u64 (y : Int)) := u64s_at (by rw [List.getElem?_drop]; exact hy)
      rw [h2] at hu
      injection hu with hu
      subst hu
      rw [Addr.add_lit]
      exact hcell
  have s1 : Hid (news.length = (n - (j)) * 1) := Lib.hid (by rw [Nat.mul_one]; exact hlen)
  have s2 : Hid (∀ u ∈ news, u.oneCell' = true) := Lib.hid (by rw [hnews]; exact u64s_one _)
  have s3 : Hid (∀ t, t < news.length → (w.drew.cell? ⟨g, 0 + i * 1 + t, none⟩).isSome = true ∧ w.drew.frozen? ⟨g, 0 + i * 1 + t, none⟩ = false) := Lib.hid fun t ht => by
    obtain ⟨y, hy, hcell⟩ := hh (i + t) (by omega)
    rw [Nat.mul_one, Nat.zero_add]
    exact ⟨by show (w.cell? _).isSome = true; rw [hcell]; rfl, hb.frozen _⟩
  obtain ⟨W1, hW1⟩ : ∃ W1, W1 = w.drew.setCells g (0 + i * 1) news := ⟨_, rfl⟩
  have hB1 : Blk W1 g 28 (putA cur i news) := by
    rw [hW1, Nat.mul_one, Nat.zero_add]
    exact blk_put _ _ hb
  have hT1 : Turn (fun k => (Value.slice (some ⟨g, 0, none⟩) n c).ownBlock = some k) w W1 := by
    rw [hW1]
    exact turn_put (F := fun k => (Value.slice (some ⟨g, 0, none⟩) n c).ownBlock = some k) rfl _ _ ⟨rfl, rfl, rfl, Nat.le_refl _, fun _ _ _ => rfl⟩
  have hcl : ∀ ty, (Builtin.clear_ #[46] ty #[.slice (some ⟨g, i + (n - (j)), none⟩) (n - (i + (n - (j)))) (c - (i + (n - (j))))]).run Try.prog W1 = .ok (.tuple #[]) (W1.setCells g (n - 1) (List.replicate 1 (.int .u64 0))) := fun ty => by
    have e1 : i + (n - (j)) = n - 1 := by omega
    have e2 : n - (n - 1) = 1 := by omega
    rw [e1, e2]
    exact Lib.run_clear_slice W1 _ _ ty _ Try.underlying46 Try.zeroValue28 rfl rfl g (n - 1) 1 _ (by omega) (fun t ht => by
      rw [hB1.cell, Array.getElem?_eq_getElem (by rw [putA_size]; omega)]; rfl) (fun t ht => hB1.frozen _)
  have HD : Hid (OwnU (W1.setCells g (n - 1) (List.replicate 1 (.int .u64 0))) B (.slice (some ⟨g, 0, none⟩) (n - 1 : Nat) c) (n - 1) (u64s (R.take i ++ R.drop (j))) ∧ Turn (fun k => (Value.slice (some ⟨g, 0, none⟩) n c).ownBlock = some k) w (W1.setCells g (n - 1) (List.replicate 1 (.int .u64 0)))) := Lib.hid (by
    have hb2 := blk_put (List.replicate 1 (.int .u64 0)) (n - 1) hB1
    refine ⟨⟨?_, .inr ⟨g, c, _, rfl, hB, hb2, by omega, hm, ?_, ?_⟩⟩, turn_put (F := fun k => (Value.slice (some ⟨g, 0, none⟩) n c).ownBlock = some k) rfl _ _ hT1⟩
    · rw [u64s_len, List.length_append, List.length_take, List.length_drop]; omega
    · rw [putA_size, putA_size, Nat.mul_one]; exact hs
    · rw [Nat.mul_one, hnews]; subst hj; exact delA_take hn hi (by omega) ht)
  have hW : Hid (W1 = w.drew.setCells g (0 + i * 1) news) := Lib.hid hW1
  have hic : i ≤ c := by omega
  have hjc : j ≤ c := by omega
  have HJ := Lib.hid hj
  have hij : ((i : Int) == (j : Int)) = false := by rw [beq_eq_false_iff_ne]; omega
  unfold maxLen at hm
  have hj1 : i < j := by omega
  have hj2 : j ≤ n := by omega
  clear hj hW1 hB1 hT1 h hb hs ht hh hnews hlen hn
  go_enter Try.func78, Try.ntmps78
  go_wp2_with fail
  go_region_law (refine step_append_room rfl (.tmp 22) (.tmp 25) 46 rfl 28 inf 1 Try.underlying46 hinf hz1 g 0 i c (by simp [Act.eval, Act.put]) Ad (n - (j)) (c - (j)) news (by simp [Act.eval, Act.put, hA]) s1.out hsrc.out s2.out (by omega) s3.out ?_; rw [← hW.out])
  go_wp2
  go_ret
  have e := HJ.out
  subst e
  exact ⟨by rw [show i + (n - (i + 1)) = n - 1 by omega]; rfl, HD.out⟩
theorem del_any {w : World} {B c i n : Nat} {A : Option Addr} {R : List Nat} (hn : R.length = n) (h : OwnU w B (.slice A n c) n (u64s R)) (hi : i < n) {z : Int} (hz : z = (i : Int) + 1) :
    Calls Try.prog 78 #[.slice A n c, .int .i64 (i : Int), .int .i64 z] w fun e w' =>
      e = .returned (.slice A (n - 1 : Nat) c) ∧ OwnU w' B (.slice A (n - 1 : Nat) c) (n - 1) (u64s (R.take i ++ R.drop (i + 1))) ∧ Turn (fun g => (Value.slice A n c).ownBlock = some g) w w' := by
  subst hz
  exact del_at hn h hi rfl
end Go.Proofs.Ytnpmjljpaaaljaa.Clg
