/- lapidaryref05's page in memory: slots, versions, where they begin; New. -/
import Derived.Test.YtbpgjpopmohbmaaHasE
import Derived.Test.YtbpgjpopmohbmaaPageY
namespace Go.Proofs.Ytbpgjpopmohbmaa.Mem
open Go.RowKit Go.Proofs.Ytbpgjpopmohbmaa.Nums
set_option linter.unusedVariables false
set_option linter.unusedSimpArgs false
set_option maxRecDepth 100000
set_option maxHeartbeats 1000000
/-- a slot, and its Data's slice -/
abbrev Ent := Option (Ver × Nat) × Value
def entV : Ent → List Value
  | (none, _) => [.bool false, .int .u64 0, .int .u64 0, .int .u64 0, .int .i64 0, .int .i64 0, .slice none 0 0, .int .i64 0]
  | (some (v, f), u) => [.bool true, .int .u64 v.r, .int .u64 v.a, .int .u64 v.b, .int .i64 ((v.p : Int) - 1), .int .i64 ((v.s : Int) - 1), u, .int .i64 f]
theorem entV_len (e : Ent) : (entV e).length = 8 := by
  obtain ⟨o, u⟩ := e
  cases o <;> rfl
def ents (E : List Ent) : List Value := E.flatMap entV
theorem ents_len (E : List Ent) : (ents E).length = E.length * 8 := by
  induction E with
  | nil => rfl
  | cons e l ih => show ((entV e) ++ ents l).length = _; rw [List.length_append, entV_len, ih, List.length_cons]; omega
theorem ents_app (E E' : List Ent) : ents (E ++ E') = ents E ++ ents E' := by simp [ents]
theorem ents_at {E : List Ent} : ∀ {i : Nat} {e : Ent}, E[i]? = some e → ∀ {j : Nat}, j < 8 → (ents E)[i * 8 + j]? = (entV e)[j]? := by
  induction E with
  | nil => intro i e h; simp at h
  | cons x l ih =>
    intro i e h j hj
    show ((entV x) ++ ents l)[i * 8 + j]? = _
    cases i with
    | zero =>
      simp at h; subst h
      rw [Nat.zero_mul, Nat.zero_add, List.getElem?_append_left (by rw [entV_len]; exact hj)]
    | succ i =>
      rw [List.getElem?_append_right (by rw [entV_len]; omega), entV_len, show (i + 1) * 8 + j - 8 = i * 8 + j by omega]
      exact ih (by simpa using h) hj
theorem ents_set {E : List Ent} {i : Nat} {e e' : Ent} (h : E[i]? = some e) {j : Nat} (hj : j < 8) {x : Value} (hx : entV e' = (entV e).set j x) : ents (E.set i e') = (ents E).set (i * 8 + j) x := by
  have hi := (List.getElem?_eq_some_iff.1 h).1
  apply List.ext_getElem?
  intro k
  by_cases hk : k < E.length * 8
  · obtain ⟨y, hy⟩ : ∃ y, E[k / 8]? = some y := ⟨_, List.getElem?_eq_getElem (by omega)⟩
    have hkk : k / 8 * 8 + k % 8 = k := by omega
    have h2 := ents_at hy (j := k % 8) (by omega)
    rw [hkk] at h2
    by_cases hki : k / 8 = i
    · have h3 : (E.set i e')[k / 8]? = some e' := by rw [List.getElem?_set, if_pos hki.symm, if_pos hi]
      have h4 := ents_at h3 (j := k % 8) (by omega)
      rw [hkk] at h4
      rw [hki] at hy
      rw [h] at hy
      injection hy with hy
      subst hy
      rw [h4, hx]
      by_cases hkj : k % 8 = j
      · obtain rfl : k = i * 8 + j := by omega
        rw [hkj, List.getElem?_set, if_pos rfl, if_pos (by rw [entV_len]; exact hj), List.getElem?_set, if_pos rfl, if_pos (by rw [ents_len]; exact hk)]
      · rw [List.getElem?_set, if_neg (Ne.symm hkj), List.getElem?_set, if_neg (by omega), h2]
    · have h3 : (E.set i e')[k / 8]? = some y := by rw [List.getElem?_set, if_neg (Ne.symm hki)]; exact hy
      have h4 := ents_at h3 (j := k % 8) (by omega)
      rw [hkk] at h4
      rw [h4, List.getElem?_set, if_neg (by omega), h2]
  · rw [List.getElem?_eq_none (by rw [ents_len, List.length_set]; omega), List.getElem?_eq_none (by rw [List.length_set, ents_len]; omega)]
/-- only blocks of F have turned, and there are new ones -/
structure Turn (F : Nat → Prop) (w w' : World) : Prop where
  os : w'.os = w.os
  tape : w'.tape = w.tape
  output : w'.output = w.output
  size : w.heap.size ≤ w'.heap.size
  block : ∀ k, k < w.heap.size → ¬ F k → w'.heap[k]? = w.heap[k]?
theorem Turn.refl (F : Nat → Prop) (w : World) : Turn F w w := ⟨rfl, rfl, rfl, Nat.le_refl _, fun _ _ _ => rfl⟩
theorem Turn.trans {F : Nat → Prop} {a b c : World} (h : Turn F a b) (k : Turn F b c) : Turn F a c :=
  ⟨k.os.trans h.os, k.tape.trans h.tape, k.output.trans h.output, Nat.le_trans h.size k.size, fun i hi hf => (k.block i (Nat.lt_of_lt_of_le hi h.size) hf).trans (h.block i hi hf)⟩
theorem Turn.of_below {F : Nat → Prop} {w w' : World} (h : Below w.heap.size w w') : Turn F w w' := ⟨h.os, h.tape, h.output, h.size, fun k hk _ => h.block k hk⟩
theorem Turn.of_only {F : Nat → Prop} {w w' : World} {g : Nat} (h : Only g w w') (hg : F g) : Turn F w w' := ⟨h.os, h.tape, h.output, h.size, fun k hk hf => h.block k hk (fun e => hf (e ▸ hg))⟩
theorem Turn.below {F : Nat → Prop} {w w' : World} {B : Nat} (h : Turn F w w') (hB : B ≤ w.heap.size) (hF : ∀ g, F g → B ≤ g) : Below B w w' := ⟨h.os, h.tape, h.output, h.size, fun k hk => h.block k (by omega) (fun hf => by have := hF k hf; omega)⟩
theorem Turn.drewN {F : Nat → Prop} {w w' : World} (h : Turn F w w') (n : Nat) : Turn F w (w'.drewN n) := ⟨h.os, h.tape, h.output, h.size, h.block⟩
/-- block R is the page of the reference with these slots; F: all its blocks -/
structure RfA (w : World) (F : Nat → Prop) (R : Nat) (E : List Ent) (st : Nat) (A : Option Addr) (c : Nat) : Prop where
  blk : Blk w R 45 #[.slice A E.length c, .int .i64 st]
  fr : F R
  own : w.ownsRow 0 122 8 (.slice A E.length c) E.length (ents E)
  fown : ∀ g, (Value.slice A E.length c).ownBlock = some g → F g
  data : ∀ (i : Nat) (v : Ver) (f : Nat) (u : Value), E[i]? = some (some (v, f), u) → OwnB w 0 u v.d.length (u8s v.d) ∧ ∀ g, u.ownBlock = some g → F g
  lt : ∀ g, F g → g < w.heap.size
def Rf (w : World) (F : Nat → Prop) (R : Nat) (L : SL) (st : Nat) : Prop := ∃ E A c, E.map Prod.fst = L ∧ RfA w F R E st A c
section
variable {w w' : World} {F : Nat → Prop} {R st c : Nat} {E : List Ent} {L : SL} {A : Option Addr}
theorem RfA.keep (h : RfA w F R E st A c) (hk : ∀ g, F g → w'.heap[g]? = w.heap[g]?) (hs : w.heap.size ≤ w'.heap.size) : RfA w' F R E st A c :=
  ⟨(hk R h.fr).trans h.blk, h.fr, own_keep h.own fun g hg => hk g (h.fown g hg), h.fown, fun i v f u hu => ⟨own_keep (h.data i v f u hu).1 fun g hg => hk g ((h.data i v f u hu).2 g hg), (h.data i v f u hu).2⟩, fun g hg => Nat.lt_of_lt_of_le (h.lt g hg) hs⟩
theorem RfA.below (h : RfA w F R E st A c) (hb : Below w.heap.size w w') : RfA w' F R E st A c := h.keep (fun g hg => hb.block g (h.lt g hg)) hb.size
theorem RfA.only {P : Nat} (h : RfA w F R E st A c) (ho : Only P w w') (hP : ¬ F P) : RfA w' F R E st A c := h.keep (fun g hg => ho.block g (h.lt g hg) (fun e => hP (e ▸ hg))) ho.size
theorem RfA.turn {G : Nat → Prop} (h : RfA w F R E st A c) (ho : Turn G w w') (hG : ∀ g, F g → ¬ G g) : RfA w' F R E st A c := h.keep (fun g hg => ho.block g (h.lt g hg) (hG g hg)) ho.size
theorem RfA.more {G : Nat → Prop} (h : RfA w F R E st A c) (hG : ∀ g, F g → G g) (hl : ∀ g, G g → g < w.heap.size) : RfA w G R E st A c :=
  ⟨h.blk, hG _ h.fr, h.own, fun g hg => hG g (h.fown g hg), fun i v f u hu => ⟨(h.data i v f u hu).1, fun g hg => hG g ((h.data i v f u hu).2 g hg)⟩, hl⟩
theorem RfA.le (h : RfA w F R E st A c) : E.length ≤ c ∧ c ≤ maxLen := by
  have := Sl.of_own h.own
  obtain ⟨A', c', hv, hs⟩ := this
  injection hv with h1 h2 h3
  subst h3
  exact ⟨hs.le, hs.cap⟩
/-- the array's block, where there is a slot -/
theorem RfA.arr (h : RfA w F R E st A c) {i : Nat} (hi : i < E.length) : ∃ g cur, A = some ⟨g, 0, none⟩ ∧ Blk w g 122 cur ∧ cur.size = c * 8 ∧ cur.toList.take (E.length * 8) = ents E ∧ F g := by
  rcases h.own.2 with ⟨h1, h2⟩ | ⟨g, cap, cur, hv, hb, hg, hn, hm, hs, ht⟩
  · exact absurd h2 (by omega)
  · injection hv with h1 h2 h3
    subst h1 h3
    exact ⟨g, cur, rfl, hg, hs, ht, h.fown g rfl⟩
theorem RfA.cell (h : RfA w F R E st A c) {i : Nat} {e : Ent} (he : E[i]? = some e) {g : Nat} (hA : A = some ⟨g, 0, none⟩) {j : Nat} (hj : j < 8) : w.cell? ⟨g, i * 8 + j, none⟩ = (entV e)[j]? := by
  have hi := (List.getElem?_eq_some_iff.1 he).1
  obtain ⟨g', cur, hA', hg, hs, ht, _⟩ := h.arr hi
  rw [hA] at hA'
  injection hA' with hA'; injection hA' with hA'
  subst hA'
  have h1 := ents_at he hj
  rw [Blk.cell hg, ← h1, ← ht, List.getElem?_take, if_pos (by omega), Array.getElem?_toList]
theorem RfA.frozen (h : RfA w F R E st A c) {i : Nat} (hi : i < E.length) {g : Nat} (hA : A = some ⟨g, 0, none⟩) (k : Nat) : w.frozen? ⟨g, k, none⟩ = false := by
  obtain ⟨g', cur, hA', hg, hs, ht, _⟩ := h.arr hi
  rw [hA] at hA'
  injection hA' with hA'; injection hA' with hA'
  subst hA'
  exact hg.frozen k
end
theorem RfA.free8 {w : World} {F : Nat → Prop} {R st c : Nat} {E : List Ent} {A : Option Addr} (h : RfA w F R E st A c) {i : Nat} {u : Value} (he : E[i]? = some (none, u)) {g : Nat} (hA : A = some ⟨g, 0, none⟩) :
    w.cell? ⟨g, i * 8, none⟩ = some (.bool false) ∧ w.cell? ⟨g, i * 8 + 1, none⟩ = some (.int .u64 0) ∧ w.cell? ⟨g, i * 8 + 2, none⟩ = some (.int .u64 0) ∧ w.cell? ⟨g, i * 8 + 3, none⟩ = some (.int .u64 0) ∧ w.cell? ⟨g, i * 8 + 4, none⟩ = some (.int .i64 0) ∧ w.cell? ⟨g, i * 8 + 5, none⟩ = some (.int .i64 0) ∧ w.cell? ⟨g, i * 8 + 6, none⟩ = some (.slice none 0 0) ∧ w.cell? ⟨g, i * 8 + 7, none⟩ = some (.int .i64 0) :=
  ⟨h.cell he hA (j := 0) (by omega), h.cell he hA (j := 1) (by omega), h.cell he hA (j := 2) (by omega), h.cell he hA (j := 3) (by omega), h.cell he hA (j := 4) (by omega), h.cell he hA (j := 5) (by omega), h.cell he hA (j := 6) (by omega), h.cell he hA (j := 7) (by omega)⟩
theorem RfA.full8 {w : World} {F : Nat → Prop} {R st c : Nat} {E : List Ent} {A : Option Addr} (h : RfA w F R E st A c) {i : Nat} {u : Value} {v : Ver} {f : Nat} (he : E[i]? = some (some (v, f), u)) {g : Nat} (hA : A = some ⟨g, 0, none⟩) :
    w.cell? ⟨g, i * 8, none⟩ = some (.bool true) ∧ w.cell? ⟨g, i * 8 + 1, none⟩ = some (.int .u64 v.r) ∧ w.cell? ⟨g, i * 8 + 2, none⟩ = some (.int .u64 v.a) ∧ w.cell? ⟨g, i * 8 + 3, none⟩ = some (.int .u64 v.b) ∧ w.cell? ⟨g, i * 8 + 4, none⟩ = some (.int .i64 ((v.p : Int) - 1)) ∧ w.cell? ⟨g, i * 8 + 5, none⟩ = some (.int .i64 ((v.s : Int) - 1)) ∧ w.cell? ⟨g, i * 8 + 6, none⟩ = some u ∧ w.cell? ⟨g, i * 8 + 7, none⟩ = some (.int .i64 f) :=
  ⟨h.cell he hA (j := 0) (by omega), h.cell he hA (j := 1) (by omega), h.cell he hA (j := 2) (by omega), h.cell he hA (j := 3) (by omega), h.cell he hA (j := 4) (by omega), h.cell he hA (j := 5) (by omega), h.cell he hA (j := 6) (by omega), h.cell he hA (j := 7) (by omega)⟩
theorem rnew_any (w : World) : Calls Try.prog 16 #[] w fun e w' => e = .returned (.pointer (some ⟨w.heap.size, 0, none⟩)) ∧ RfA w' (fun g => g = w.heap.size) w.heap.size [] 512 none 0 ∧ Below w.heap.size w w' := by
  go_enter Try.func16, Try.ntmps16
  go_wp2_with fail
  go_ret
  refine ⟨rfl, ⟨Blk.new w _ _, rfl, World.ownsRow_nil _ _ _ _, fun g hg => by simp [Value.ownBlock] at hg, fun i v f u hu => by simp at hu, fun g hg => by subst hg; rw [size_alloc]; omega⟩, bel_alloc _ _⟩
theorem map_at {E : List Ent} {k : Nat} {o : Option (Ver × Nat)} {u : Value} (h : E[k]? = some (o, u)) : (E.map Prod.fst)[k]? = some o := by rw [List.getElem?_map, h]; rfl
theorem tot_small {L : SL} (h : ∀ (i : Nat) (v : Ver) (f : Nat), L[i]? = some (some (v, f)) → v.d.length ≤ 200) : ∀ k, k ≤ L.length → tot (L.take k) ≤ 230 * k
  | 0, _ => by simp [tot]
  | k + 1, hk => by
    obtain ⟨o, ho⟩ : ∃ o, L[k]? = some o := ⟨_, List.getElem?_eq_getElem (by omega)⟩
    have ih := tot_small h k (by omega)
    rw [tot_take_succ ho]
    cases o with
    | none => simp [osz]; omega
    | some x =>
      obtain ⟨v, f⟩ := x
      have := h k v f ho
      show tot (L.take k) + (30 + v.d.length) ≤ _
      omega
theorem next_step {L : SL} {k : Nat} {o : Option (Ver × Nat)} (h : L[k]? = some o) : decide (nextL L < k + 1) = (decide (nextL L < k) || o.isNone) := by
  rw [Bool.eq_iff_iff, Bool.or_eq_true, decide_eq_true_eq, decide_eq_true_eq]
  constructor
  · intro hlt
    by_cases h2 : nextL L < k
    · exact .inl h2
    · right
      obtain rfl : nextL L = k := by omega
      rw [nextL_free (List.getElem?_eq_some_iff.1 h).1] at h
      injection h with h
      subst h
      rfl
  · intro hor
    rcases hor with h2 | h2
    · omega
    · apply Classical.byContradiction
      intro hn
      obtain ⟨x, hx⟩ := nextL_full (L := L) (j := k) (by omega)
      rw [h] at hx
      injection hx with hx
      subst hx
      cases h2
/-- how much one more may have, as the reference reckons it -/
theorem rroom_any {w : World} {F : Nat → Prop} {R st c : Nat} {E : List Ent} {A : Option Addr} (h : RfA w F R E st A c) (hl : E.length ≤ 128) (hv : ∀ (i : Nat) (v : Ver) (f : Nat), (E.map Prod.fst)[i]? = some (some (v, f)) → v.d.length ≤ 200) :
    Calls Try.prog 22 #[.pointer (some ⟨R, 0, none⟩)] w fun e w' => e = .returned (.int .i64 (roomL (E.map Prod.fst))) ∧ Below w.heap.size w w' := by
  have H := Lib.hid h
  have x0 := h.blk.cell 0
  have x1 := h.blk.cell 1
  have hle := h.le
  unfold maxLen at hle
  obtain ⟨L, hL⟩ : ∃ L, E.map Prod.fst = L := ⟨_, rfl⟩
  have hLl : L.length = E.length := by rw [← hL, List.length_map]
  have HLL := Lib.hid hL
  rw [hL] at hv ⊢
  have HV := Lib.hid hv
  have hnl := nextL_le L
  have htl := tot_small hv L.length (Nat.le_refl _)
  rw [List.take_length] at htl
  clear h hL hv
  go_enter Try.func22, Try.ntmps22
  go_wp2_with fail
  clear x0 x1
  go_loopw [3, 4, 14] (fun nv fv i wr => ∃ k : Nat, k ≤ E.length ∧ i = .int .i64 k ∧ nv = .int .i64 (478 - 4 * (k : Int) - (tot (L.take k) : Nat)) ∧ fv = .bool (decide (nextL L < k)) ∧ Below w.heap.size w wr) (fun _ _ i _ => E.length - (intOf i).toNat)
  case atStart => exact ⟨0, by omega, rfl, by simp [tot], rfl, Below.refl _ _⟩
  case round =>
    obtain ⟨k, hk, rfl, rfl, rfl, hb⟩ := hrel
    have HB := Lib.hid hb
    have HK := Lib.hid (H.out.below hb)
    have htk := tot_small HV.out k (by omega)
    by_cases hlt : k < E.length
    · have hlt' : (k : Int) < E.length := by omega
      obtain ⟨⟨o, u⟩, he⟩ : ∃ e, E[k]? = some e := ⟨_, List.getElem?_eq_getElem hlt⟩
      obtain ⟨g, cur, rfl, _, _, _, _⟩ := HK.out.arr hlt
      have hLk : L[k]? = some o := by rw [← HLL.out]; exact map_at he
      have HT := Lib.hid (tot_take_succ hLk)
      have HN := Lib.hid (next_step hLk)
      cases o with
      | none =>
        obtain ⟨y0, y1, y2, y3, y4, y5, y6, y7⟩ := HK.out.free8 he rfl
        go_wp2_with fail
        go_roundw
        case rel =>
          refine ⟨k + 1, by omega, by go_num, ?_, ?_, ?_⟩
          · rw [HT.out]; simp only [osz]; go_num
          · rw [HN.out]; simp
          · exact HB.out.trans ((bel_alloc _ _).mono HB.out.size)
        case measure => simp [intOf]; omega
      | some x =>
        obtain ⟨v, f⟩ := x
        obtain ⟨A', c', rfl, hsl⟩ := Sl.of_own (H.out.data k v f u he).1
        have hvl := HV.out k v f hLk
        obtain ⟨y0, y1, y2, y3, y4, y5, y6, y7⟩ := HK.out.full8 he rfl
        go_wp2_with fail
        go_roundw
        case rel =>
          refine ⟨k + 1, by omega, by go_num, ?_, ?_, ?_⟩
          · rw [HT.out]; simp only [osz, Ver.sz]; go_num
          · rw [HN.out]; simp
          · exact HB.out.trans ((bel_alloc _ _).mono HB.out.size)
        case measure => simp [intOf]; omega
    · obtain rfl : k = E.length := by omega
      rw [← hLl, List.take_length] at htk ⊢
      have HRM : Hid (∀ x : Int, x = 478 - 4 * ((max L.length (nextL L + 1) : Nat) : Int) - ((tot L : Nat) : Int) → roomL L = if x < 0 then -1 else x) := Lib.hid (by
        intro x hx
        unfold roomL
        rw [← hx]
        split <;> omega)
      by_cases hn : nextL L < L.length
      · have hd : decide (nextL L < L.length) = true := decide_eq_true hn
        have hm : max L.length (nextL L + 1) = L.length := by omega
        rw [hm] at HRM
        have e := HRM.out _ rfl
        rw [hd]
        clear HRM
        by_cases h0 : (478 : Int) - 4 * (L.length : Int) - (tot L : Nat) < 0
        · rw [if_pos h0] at e
          have HE := Lib.hid e
          clear e
          go_wp2_with fail
          go_ret
          exact ⟨by rw [HE.out]; first | rfl | (rw [hLl]; rfl), HB.out⟩
        · rw [if_neg h0] at e
          have HE := Lib.hid e
          clear e
          go_wp2_with fail
          go_ret
          exact ⟨by rw [HE.out]; first | rfl | (rw [hLl]; rfl), HB.out⟩
      · have hd : decide (nextL L < L.length) = false := decide_eq_false hn
        have hm : max L.length (nextL L + 1) = L.length + 1 := by omega
        rw [hm] at HRM
        have e := HRM.out (478 - 4 * (L.length : Int) - ((tot L : Nat) : Int) - 4) (by push_cast; omega)
        rw [hd]
        clear HRM
        by_cases h0 : (478 : Int) - 4 * (L.length : Int) - (tot L : Nat) - 4 < 0
        · rw [if_pos h0] at e
          have HE := Lib.hid e
          clear e
          go_wp2_with fail
          go_ret
          exact ⟨by rw [HE.out]; first | rfl | (rw [hLl]; rfl), HB.out⟩
        · rw [if_neg h0] at e
          have HE := Lib.hid e
          clear e
          go_wp2_with fail
          go_ret
          exact ⟨by rw [HE.out]; first | rfl | (rw [hLl]; rfl), HB.out⟩
end Go.Proofs.Ytbpgjpopmohbmaa.Mem
