/- RoomLast: its walk. -/
import Derived.Test.YtghlconkmbmflaaRoomL
import Derived.Test.YtghlconkmbmflaaRoomO
import Derived.Maps.Own
import Derived.Maps.OwnSet
import Derived.Maps.RangeWalk
import Derived.Maps.Views
namespace Go.Proofs.Ytghlconkmbmflaa.Room
open Go.RowKit Go.Proofs.Ytghlconkmbmflaa.Nums Go.Proofs.Ytghlconkmbmflaa.Mem
set_option linter.unusedVariables false
set_option linter.unusedSimpArgs false
set_option maxRecDepth 100000
theorem lawI : Go.Maps.Keyed Try.prog 3 := Go.Maps.int_keyed Try.underlying3
theorem wf64 {x : Int} (h : Nums.In64 x) : (Lit.int .i64 x).wf = true := WalkArith.wf_i64 h
def MapD (w : World) (M n : Nat) (D : DataW Unit) : Prop := w.ownsMap Try.prog 3 (plainElem Try.prog 3) M n D
/-- the datum tells just those rooms -/
structure Rep (D : DataW Unit) (L : List Int) : Prop where
  tidy : Maps.Tidy D
  has : ∀ p : Int, Maps.has D (.int .i64 p) = true → 0 ≤ p ∧ p < L.length
  all : ∀ k : Nat, k < L.length → Maps.has D (.int .i64 k) = true
  val : ∀ (k : Nat) (x : Int), L[k]? = some x → ∀ zd, D.atKey (.int .i64 k) zd = .lit (.int .i64 x)
  size : Maps.size D = L.length
theorem isKey (p : Int) : WideAt.IsKeyLit (.int .i64 p) := trivial
theorem rep_nil : Rep (.map []) [] := ⟨Maps.tidy_empty, fun p h => by simp [Maps.has] at h, fun k h => by simp at h, fun k x h => by simp at h, rfl⟩
theorem lit_ne {p q : Int} (h : p ≠ q) : (Lit.int .i64 p) ≠ .int .i64 q := fun e => by injection e with _ e; exact h e
theorem Rep.app {D : DataW Unit} {L : List Int} (h : Rep D L) (x : Int) : Rep (D.put (.int .i64 L.length) (.lit (.int .i64 x))) (L ++ [x]) := by
  refine ⟨h.tidy.put (isKey _) _, fun p hp => ?_, fun k hk => ?_, fun k y hy zd => ?_, ?_⟩
  · rw [List.length_append, List.length_singleton]
    by_cases e : p = L.length
    · omega
    · rw [Maps.has_put_other (lit_ne e)] at hp
      have := h.has p hp
      omega
  · rw [List.length_append, List.length_singleton] at hk
    by_cases e : k = L.length
    · rw [e]; exact Maps.has_put_same h.tidy.isMap (isKey _) _
    · rw [Maps.has_put_other (lit_ne (by omega))]
      exact h.all k (by omega)
  · by_cases e : k = L.length
    · subst e
      rw [List.getElem?_append_right (Nat.le_refl _), Nat.sub_self] at hy
      simp at hy
      rw [Maps.atKey_put_same h.tidy.isMap (isKey _), hy]
    · rw [Maps.atKey_put_other (lit_ne (by omega))]
      have hk : k < L.length := by
        have := (List.getElem?_eq_some_iff.1 hy).1
        rw [List.length_append, List.length_singleton] at this
        omega
      rw [List.getElem?_append_left hk] at hy
      exact h.val k y hy zd
  · rw [Maps.size_put h.tidy, if_neg ?_, h.size, List.length_append, List.length_singleton]
    intro e
    have := h.has _ e
    omega
theorem Rep.set {D : DataW Unit} {L : List Int} (h : Rep D L) {k : Nat} (hk : k < L.length) (x : Int) : Rep (D.put (.int .i64 k) (.lit (.int .i64 x))) (L.set k x) := by
  refine ⟨h.tidy.put (isKey _) _, fun p hp => ?_, fun j hj => ?_, fun j y hy zd => ?_, ?_⟩
  · rw [List.length_set]
    by_cases e : p = k
    · omega
    · rw [Maps.has_put_other (lit_ne e)] at hp
      exact h.has p hp
  · rw [List.length_set] at hj
    by_cases e : j = k
    · rw [e]; exact Maps.has_put_same h.tidy.isMap (isKey _) _
    · rw [Maps.has_put_other (lit_ne (by omega))]
      exact h.all j hj
  · by_cases e : j = k
    · subst e
      rw [List.getElem?_set, if_pos rfl, if_pos hk] at hy
      injection hy with hy
      rw [Maps.atKey_put_same h.tidy.isMap (isKey _), hy]
    · rw [List.getElem?_set_ne (by omega)] at hy
      rw [Maps.atKey_put_other (lit_ne (by omega))]
      exact h.val j y hy zd
  · rw [Maps.size_put h.tidy, if_pos (h.all k hk), h.size, List.length_set]
/-- what is read at a key that it has -/
theorem Rep.read {D : DataW Unit} {L : List Int} (h : Rep D L) {p c : Int} (hp : Maps.has D (.int .i64 p) = true) (hat : ∀ zd, D.atKey (.int .i64 p) zd = .lit (.int .i64 c)) : getR L p = c := by
  have hb := h.has p hp
  obtain ⟨k, rfl⟩ : ∃ k : Nat, p = k := ⟨p.toNat, by omega⟩
  have hk : L[k]? = some (L[k]'(by omega)) := List.getElem?_eq_getElem (by omega)
  have := (h.val k _ hk (.lit (.bool true))).symm.trans (hat _)
  injection this with this
  injection this with _ this
  rw [getR_at hk, this]
section
variable {w w' : World} {base P M n : Nat} {L : List Int} {D : DataW Unit}
theorem One.kept {row : Option Nat} (h : One w base P L) (hg : w.grownBy w' row) (hne : ∀ b, row = some b → ∀ cs t fz, w.heap[b]? ≠ some (.cells cs t fz)) : One w' base P L := by
  obtain ⟨hB, A, c, hM⟩ := h
  refine ⟨Nat.le_trans hB hg.size, A, c, (hg.block P hM.blk.lt (fun e => hne P e.symm _ _ _ hM.blk)).trans hM.blk, own_keep hM.own fun g hgo => hg.block g (World.ownsRow.lt hM.own g hgo).2 (fun e => ?_), hM.ge⟩
  rcases hM.own.2 with ⟨h0, _⟩ | ⟨g', cap, cur, hv, _, hc, _⟩
  · rw [h0] at hgo; simp [Value.ownBlock] at hgo
  · rw [hv] at hgo
    have : g' = g := by simpa [Value.ownBlock] using hgo
    subst this
    exact hne g' e.symm _ _ _ hc
theorem One.alloc (h : One w base P L) (o : Obj) : One (w.alloc o) base P L := h.kept (World.grownBy_alloc w o none) (fun b e => by cases e)
theorem map_not (h : MapD w M n D) : ∀ b, some M = some b → ∀ cs t fz, w.heap[b]? ≠ some (.cells cs t fz) := by
  intro b e cs t fz hc
  injection e with e
  subst e
  obtain ⟨es, clock, hb, _⟩ := h
  rw [hb] at hc
  cases hc
theorem set_one_map (h : One w base P L) (hm : MapD w M n D) (hL : L.length ≤ 256) (p r : Int) :
    Calls Try.prog 9 #[.pointer (some ⟨P, 0, none⟩), .int .i64 p, .int .i64 r] w fun e w' => e = .returned (.int .i64 (setR L p r).1) ∧ One w' base P (setR L p r).2 ∧ MapD w' M n D ∧ Below base w w' ∧ ∀ g t cs, Blk w g t cs → t ≠ 3 → t ≠ 49 → Blk w' g t cs := by
  obtain ⟨hB, A, c, hM⟩ := h
  refine (set_any hM hL hB p r).mono ?_
  rintro e w' ⟨rfl, A1, c1, hM1, hF⟩
  refine ⟨rfl, ⟨Nat.le_trans hB hF.size, A1, c1, hM1⟩, ?_, hF.below hB hM.ge hM.own_ge, fun g t cs hb h1 h2 => hF.blk hb (hb.ne_ hM.blk h2) (own_blk_ne hM.own hb (Ne.symm h1))⟩
  have hn := map_not hm
  obtain ⟨es, clock, hb, rest⟩ := hm
  refine ⟨es, clock, (hF.block M (Array.getElem?_eq_some_iff.1 hb).1 (fun e => hn M rfl _ _ _ (by rw [e]; exact hM.blk)) (fun e => ?_)).trans hb, rest⟩
  rcases hM.own.2 with ⟨h0, _⟩ | ⟨g', cap, cur, hv, _, hc, _⟩
  · rw [h0] at e; simp [Value.ownBlock] at e
  · rw [hv] at e
    have : g' = M := by simpa [Value.ownBlock] using e
    subst this
    exact hn g' rfl _ _ _ hc
end
def RangeD (w : World) (M r n : Nat) (D : DataW Unit) (left : Lit → Bool) (cnt : Nat) : Prop := w.ranges Try.prog 3 (plainElem Try.prog 3) M r n D left cnt
theorem range_not {w : World} {M r n : Nat} {D : DataW Unit} {left : Lit → Bool} {cnt : Nat} (h : RangeD w M r n D left cnt) : ∀ b, some r = some b → ∀ cs t fz, w.heap[b]? ≠ some (.cells cs t fz) := by
  intro b e cs t fz hc
  injection e with e
  subst e
  obtain ⟨es, clock, since, seen, c0, _, _, _, _, hr, _⟩ := h
  rw [hr] at hc
  cases hc
theorem setR_bad {L : List Int} {p r E1 : Int} {E2 : List Int} (h : setR L p r = (E1, E2)) (he : ¬ E1 = 0) : E2 = L ∧ (E1 == 0) = false := by
  refine ⟨?_, beq_eq_false_iff_ne.2 he⟩
  unfold setR at h
  split at h
  · injection h with _ h; exact h.symm
  split at h
  · injection h with _ h; exact h.symm
  split at h
  · injection h with h _; exact absurd h.symm he
  · injection h with h _; exact absurd h.symm he
theorem setR_ok {L : List Int} {p r : Int} {E2 : List Int} {D : DataW Unit} (h : setR L p r = (0, E2)) (hR : Rep D L) : ∃ k : Nat, p = k ∧ Rep (D.put (.int .i64 k) (.lit (.int .i64 (clamp r)))) E2 := by
  unfold setR at h
  split at h
  · injection h with h _; exact absurd h (by decide)
  rename_i h1
  split at h
  · injection h with h _; exact absurd h (by decide)
  rename_i h2
  obtain ⟨k, rfl⟩ : ∃ k : Nat, p = k := ⟨p.toNat, by omega⟩
  refine ⟨k, rfl, ?_⟩
  split at h
  · rename_i h3
    obtain rfl : k = L.length := by omega
    injection h with _ h
    rw [← h]
    exact hR.app _
  · injection h with _ h
    rw [← h, Int.toNat_natCast]
    exact hR.set (by omega) _
def LRel (w : World) (P M r n : Nat) (L : List Int) (D : DataW Unit) (wi : World) : Prop :=
  ∃ left cnt, RangeD wi M r n D left cnt ∧ (∀ kl, left kl = true → Maps.has D kl = true) ∧ One wi w.heap.size P L ∧ Below w.heap.size w wi
set_option maxHeartbeats 8000000 in
theorem last_walk (w : World) (l : List O) (A : Option Addr) (n c : Nat) (hl : l.length = n) (hs : Sl w w.heap.size 3 A n c (ops l)) (hok : ∀ o ∈ l, o.ok) :
    Calls Try.prog 5 #[.slice A n c] w fun e w' => e = .returned (.bool true) ∧ Below w.heap.size w w' := by
  have HS := Lib.hid hs
  have HL := Lib.hid hl
  have HOK := Lib.hid hok
  have hcap := hs.cap
  have hle := hs.le
  unfold maxLen at hcap
  have hmm := @run_makeMap Try.prog
  clear hs hl hok
  go_enter Try.func5, Try.ntmps5
  go_wp2_with fail
  refine (awake_any _).mono ?_
  rintro e w1 ⟨rfl, hb1⟩
  have HB1 := Lib.hid hb1
  have hz1 := hb1.size
  clear hb1
  go_wp2_with fail
  refine (new_any _).mono ?_
  rintro e w2 ⟨rfl, hw2⟩
  have HO2 : Hid (One (w2.alloc (.map #[] 0)) w.heap.size w1.heap.size []) := Lib.hid (by subst hw2; exact (one_new w1 hz1).alloc _)
  have HB2 : Hid (Below w.heap.size w (w2.alloc (.map #[] 0))) := Lib.hid (by subst hw2; exact bel_trans (bel_trans HB1.out (bel_alloc _ _)) (bel_alloc _ _))
  have HM2 : Hid (MapD (w2.alloc (.map #[] 0)) w2.heap.size 0 (.map [])) := Lib.hid (World.ownsMap_made _ _ _ _)
  have hz2 : w.heap.size ≤ w2.heap.size := by subst hw2; rw [size_alloc]; omega
  generalize w1.heap.size = P at *
  generalize hQ : w2.heap.size = M at *
  have HQ := Lib.hid hQ
  clear hw2 HB1 hQ
  go_wp2_with fail
  rw [HQ.out]
  go_loopw [15] (fun i wr => ∃ k : Nat, k ≤ n ∧ i = .int .i64 k ∧ ∃ L D, L.length ≤ 256 ∧ One wr w.heap.size P L ∧ MapD wr M k D ∧ Rep D L ∧ Below w.heap.size w wr) (fun i _ => n - (intOf i).toNat)
  case atStart => exact ⟨0, by omega, rfl, [], .map [], by simp, HO2.out, HM2.out, rep_nil, HB2.out⟩
  case round =>
    obtain ⟨k, hk, rfl, L, D, hN, hO, hM, hR, hb⟩ := hrel
    have HN := Lib.hid hN
    have HR := Lib.hid hR
    have HB := Lib.hid hb
    have HO := Lib.hid hO
    have HM := Lib.hid hM
    clear hN hO hM hR hb HO2 HB2 HM2
    obtain ⟨wo, rfl⟩ : ∃ wo : World, wo = wr := ⟨_, rfl⟩
    by_cases hlt : k < n
    · obtain ⟨o, ho⟩ : ∃ o, l[k]? = some o := ⟨_, List.getElem?_eq_getElem (by rw [HL.out]; exact hlt)⟩
      obtain ⟨ad, rfl, hAt⟩ := HS.out.at_ (by omega)
      obtain ⟨x0, x1, x2⟩ := at_op (hAt.below HB.out) ho
      obtain ⟨hop, hor, _⟩ := HOK.out o (List.mem_of_getElem? ho)
      obtain ⟨p, r, q⟩ := o
      have hlt' : (k : Int) < n := by omega
      have HWP := Lib.hid (wf64 hop)
      have HWR := Lib.hid (wf64 hor)
      have HBO := Lib.hid (bel_trans HB.out (bel_alloc wo (.cells #[.int .i64 p, .int .i64 r, .int .i64 q] 31)))
      have HOO := Lib.hid (HO.out.alloc (.cells #[.int .i64 p, .int .i64 r, .int .i64 q] 31))
      have HMO : Hid (MapD (wo.alloc (.cells #[.int .i64 p, .int .i64 r, .int .i64 q] 31)) M k D) := Lib.hid (World.ownsMap.alloc HM.out _)
      clear ho hAt hop hor HO HM HB
      by_cases h200 : 200 ≤ k
      · have h200' : (200 : Int) ≤ k := by omega
        go_wp2_with fail
        refine (pages_one HOO.out).mono ?_
        rintro e w3 ⟨rfl, rfl⟩
        go_wp2_with (first | (at_len; refine wpList_len_own _ rfl _ 45 rfl 3 3 Try.underlying45 _ M k _ rfl HMO.out ?_) | fail)
        rw [HR.out.size]
        go_wp2_with fail
        go_ret
        exact ⟨by show Ending.returned (.bool (((L.length : Nat) : Int) == ((L.length : Nat) : Int))) = _; rw [beq_self_eq_true], HBO.out⟩
      · have h200' : ¬ (200 : Int) ≤ k := by omega
        have hk200 : k < 200 := by omega
        have HOC := Lib.hid (Blk.new wo 31 #[.int .i64 p, .int .i64 r, .int .i64 q])
        have C3 := Lib.hid (set_one_map HOO.out HMO.out HN.out p r)
        obtain ⟨E1, E2, hE⟩ : ∃ E1 E2, setR L p r = (E1, E2) := ⟨_, _, rfl⟩
        rw [hE] at C3
        have HE := Lib.hid hE
        clear hE
        by_cases hbad : E1 = 0
        · subst hbad
          obtain ⟨kp, hkp, hrep⟩ := setR_ok HE.out HR.out
          subst hkp
          have HRP := Lib.hid hrep
          have HN4 : Hid (E2.length ≤ 256) := Lib.hid (by have := setR_len (L := L) (p := (kp : Int)) (r := r) HN.out; rw [HE.out] at this; exact this)
          clear hrep HE
          rcases (show (r < -1 ∧ min (max r (-1)) 512 = -1) ∨ (¬ r < -1 ∧ 512 < r ∧ min (max r (-1)) 512 = 512) ∨ (¬ r < -1 ∧ ¬ 512 < r ∧ min (max r (-1)) 512 = r) by omega) with ⟨r1, hx⟩ | ⟨r1, r2, hx⟩ | ⟨r1, r2, hx⟩
          ·
            have HX : Hid (Rep (D.put (.int .i64 kp) (.lit (.int .i64 (-1)))) E2) := Lib.hid (by have := HRP.out; unfold clamp at this; rw [hx] at this; exact this)
            have HWX : Hid ((Lit.int .i64 (-1)).wf = true) := Lib.hid (by decide)
            clear hx HRP

            go_wp2_with fail
            refine C3.out.mono ?_
            rintro e w3 ⟨rfl, ho3, hm3, hb3, hk3⟩
            have HO3 := Lib.hid ho3
            have HM3 := Lib.hid hm3
            have HB3 := Lib.hid (HBO.out.trans hb3)
            have hz3 := HB3.out.size

            obtain ⟨v0, v1, v2⟩ := o_cells (o := ⟨(kp : Int), r, q⟩) (hk3 _ _ _ HOC.out (by decide) (by decide))
            clear ho3 hm3 hb3 hk3
            go_wp2_with (first | (at_mapUpdate; refine wpList_mapUpdate_own _ rfl _ _ _ 45 rfl 3 3 lawI Try.underlying45 _ M k _ rfl HM3.out (by unfold maxLen; omega) _ _ _ rfl rfl (Go.Maps.keyOf_int_mk Try.underlying3 HWP.out) _ [] (plainElem_int Try.underlying3 HWX.out) ?_; intro w4 hown4 hg4; have HM4 : Hid (MapD w4 M (k + 1) _) := Lib.hid hown4; clear hown4) | (at_range; refine wpList_range_own _ rfl _ 45 rfl 3 3 lawI Try.underlying45 _ M (k + 1) _ rfl HM4.out ?_; intro w5 hrg5 hg5 hs5) | fail)
            (first | go_frame | skip)
            have hz4 : w.heap.size ≤ w4.heap.size := Nat.le_trans hz3 hg4.size
            have HB4 : Hid (Below w.heap.size w w4) := Lib.hid (HB3.out.trans ⟨hg4.os, hg4.tape, hg4.output, hg4.size, fun j hj => hg4.block j (by omega) (fun e => by injection e with e; omega)⟩)
            have HO4 := Lib.hid (HO3.out.kept hg4 (map_not HM3.out))
            have HR4 := HX
            clear hg4 HM3 HO3 HB3 v0 v1 v2

            have HRR := Lib.hid hz4
            have HLR : Hid (LRel w P M w4.heap.size (k + 1) E2 (D.put (.int .i64 kp) (.lit (.int .i64 (-1)))) w5) := Lib.hid ⟨_, _, hrg5, fun kl h => h, HO4.out.kept hg5 (fun b e => by cases e), HB4.out.trans ⟨hg5.os, hg5.tape, hg5.output, hg5.size, fun k hk => hg5.block k (by omega) (by simp)⟩⟩
            clear hrg5 hg5 hs5
            go_loopw [7] (fun _ wi => LRel w P M w4.heap.size (k + 1) E2 (D.put (.int .i64 kp) (.lit (.int .i64 (-1)))) wi) (fun _ wi => wi.rangeLeft M w4.heap.size)
            case atStart => exact HLR.out
            case round =>
              obtain ⟨left, cnt, hrg, hleft, ho, hb⟩ := hrel
              have HRG := Lib.hid hrg
              have HLF := Lib.hid hleft
              have HOI := Lib.hid ho
              have HBI := Lib.hid hb
              clear hrg hleft ho hb HLR
              go_wp2_with (first | (at_next; refine wpList_next_ranges_ii _ rfl _ rfl 3 3 .i64 .i64 lawI Try.underlying3 Try.underlying3 M w4.heap.size (k + 1) _ _ _ rfl HRG.out ?_ ?_) | fail)
              · intro hc0 hl0
                clear hc0 hl0
                go_wp2_with fail
                go_roundw
                case rel => exact ⟨k + 1, by omega, by go_num, E2, (D.put (.int .i64 kp) (.lit (.int .i64 (-1)))), HN4.out, HOI.out, World.ownsMap.mono HRG.out.owns (Nat.le_refl _), HR4.out, HBI.out⟩
                case measure => simp [intOf]; omega
              · intro x c1 w6 cnt1 hwx hwc hlx hat hrg1 hlt1 hg1 hs1 hen
                have HGX := Lib.hid (HR4.out.read (HLF.out _ hlx) hat)
                have HO6 := Lib.hid (HOI.out.kept hg1 (range_not HRG.out))
                have HLR6 : Hid (LRel w P M w4.heap.size (k + 1) E2 (D.put (.int .i64 kp) (.lit (.int .i64 (-1)))) w6 ∧ w6.rangeLeft M w4.heap.size = cnt1 ∧ cnt1 < cnt) := Lib.hid ⟨⟨_, _, hrg1, fun kl h => HLF.out kl (by rw [Bool.and_eq_true] at h; exact h.1), HO6.out, HBI.out.trans ⟨hg1.os, hg1.tape, hg1.output, hg1.size, fun k hk => hg1.block k (by have := HBI.out.size; omega) (fun e => by injection e with e; have := HRR.out; omega)⟩⟩, hrg1.left_eq, hlt1⟩
                have HCN := Lib.hid HRG.out.left_eq
                clear hwx hwc hlx hat hrg1 hlt1 hg1 hs1
                go_wp2_with fail
                refine (get_one HO6.out _).mono ?_
                rw [HGX.out]
                rintro e w7 ⟨rfl, rfl⟩
                go_wp2_with fail
                go_roundw
                case rel => exact HLR6.out.1
                case measure => rw [HLR6.out.2.1, HCN.out]; exact HLR6.out.2.2
          ·
            have HX : Hid (Rep (D.put (.int .i64 kp) (.lit (.int .i64 (512)))) E2) := Lib.hid (by have := HRP.out; unfold clamp at this; rw [hx] at this; exact this)
            have HWX : Hid ((Lit.int .i64 (512)).wf = true) := Lib.hid (by decide)
            clear hx HRP

            go_wp2_with fail
            refine C3.out.mono ?_
            rintro e w3 ⟨rfl, ho3, hm3, hb3, hk3⟩
            have HO3 := Lib.hid ho3
            have HM3 := Lib.hid hm3
            have HB3 := Lib.hid (HBO.out.trans hb3)
            have hz3 := HB3.out.size

            obtain ⟨v0, v1, v2⟩ := o_cells (o := ⟨(kp : Int), r, q⟩) (hk3 _ _ _ HOC.out (by decide) (by decide))
            clear ho3 hm3 hb3 hk3
            go_wp2_with (first | (at_mapUpdate; refine wpList_mapUpdate_own _ rfl _ _ _ 45 rfl 3 3 lawI Try.underlying45 _ M k _ rfl HM3.out (by unfold maxLen; omega) _ _ _ rfl rfl (Go.Maps.keyOf_int_mk Try.underlying3 HWP.out) _ [] (plainElem_int Try.underlying3 HWX.out) ?_; intro w4 hown4 hg4; have HM4 : Hid (MapD w4 M (k + 1) _) := Lib.hid hown4; clear hown4) | (at_range; refine wpList_range_own _ rfl _ 45 rfl 3 3 lawI Try.underlying45 _ M (k + 1) _ rfl HM4.out ?_; intro w5 hrg5 hg5 hs5) | fail)
            (first | go_frame | skip)
            have hz4 : w.heap.size ≤ w4.heap.size := Nat.le_trans hz3 hg4.size
            have HB4 : Hid (Below w.heap.size w w4) := Lib.hid (HB3.out.trans ⟨hg4.os, hg4.tape, hg4.output, hg4.size, fun j hj => hg4.block j (by omega) (fun e => by injection e with e; omega)⟩)
            have HO4 := Lib.hid (HO3.out.kept hg4 (map_not HM3.out))
            have HR4 := HX
            clear hg4 HM3 HO3 HB3 v0 v1 v2

            have HRR := Lib.hid hz4
            have HLR : Hid (LRel w P M w4.heap.size (k + 1) E2 (D.put (.int .i64 kp) (.lit (.int .i64 (512)))) w5) := Lib.hid ⟨_, _, hrg5, fun kl h => h, HO4.out.kept hg5 (fun b e => by cases e), HB4.out.trans ⟨hg5.os, hg5.tape, hg5.output, hg5.size, fun k hk => hg5.block k (by omega) (by simp)⟩⟩
            clear hrg5 hg5 hs5
            go_loopw [7] (fun _ wi => LRel w P M w4.heap.size (k + 1) E2 (D.put (.int .i64 kp) (.lit (.int .i64 (512)))) wi) (fun _ wi => wi.rangeLeft M w4.heap.size)
            case atStart => exact HLR.out
            case round =>
              obtain ⟨left, cnt, hrg, hleft, ho, hb⟩ := hrel
              have HRG := Lib.hid hrg
              have HLF := Lib.hid hleft
              have HOI := Lib.hid ho
              have HBI := Lib.hid hb
              clear hrg hleft ho hb HLR
              go_wp2_with (first | (at_next; refine wpList_next_ranges_ii _ rfl _ rfl 3 3 .i64 .i64 lawI Try.underlying3 Try.underlying3 M w4.heap.size (k + 1) _ _ _ rfl HRG.out ?_ ?_) | fail)
              · intro hc0 hl0
                clear hc0 hl0
                go_wp2_with fail
                go_roundw
                case rel => exact ⟨k + 1, by omega, by go_num, E2, (D.put (.int .i64 kp) (.lit (.int .i64 (512)))), HN4.out, HOI.out, World.ownsMap.mono HRG.out.owns (Nat.le_refl _), HR4.out, HBI.out⟩
                case measure => simp [intOf]; omega
              · intro x c1 w6 cnt1 hwx hwc hlx hat hrg1 hlt1 hg1 hs1 hen
                have HGX := Lib.hid (HR4.out.read (HLF.out _ hlx) hat)
                have HO6 := Lib.hid (HOI.out.kept hg1 (range_not HRG.out))
                have HLR6 : Hid (LRel w P M w4.heap.size (k + 1) E2 (D.put (.int .i64 kp) (.lit (.int .i64 (512)))) w6 ∧ w6.rangeLeft M w4.heap.size = cnt1 ∧ cnt1 < cnt) := Lib.hid ⟨⟨_, _, hrg1, fun kl h => HLF.out kl (by rw [Bool.and_eq_true] at h; exact h.1), HO6.out, HBI.out.trans ⟨hg1.os, hg1.tape, hg1.output, hg1.size, fun k hk => hg1.block k (by have := HBI.out.size; omega) (fun e => by injection e with e; have := HRR.out; omega)⟩⟩, hrg1.left_eq, hlt1⟩
                have HCN := Lib.hid HRG.out.left_eq
                clear hwx hwc hlx hat hrg1 hlt1 hg1 hs1
                go_wp2_with fail
                refine (get_one HO6.out _).mono ?_
                rw [HGX.out]
                rintro e w7 ⟨rfl, rfl⟩
                go_wp2_with fail
                go_roundw
                case rel => exact HLR6.out.1
                case measure => rw [HLR6.out.2.1, HCN.out]; exact HLR6.out.2.2
          ·
            have HX : Hid (Rep (D.put (.int .i64 kp) (.lit (.int .i64 (r)))) E2) := Lib.hid (by have := HRP.out; unfold clamp at this; rw [hx] at this; exact this)
            have HWX : Hid ((Lit.int .i64 (r)).wf = true) := Lib.hid (HWR.out)
            clear hx HRP

            go_wp2_with fail
            refine C3.out.mono ?_
            rintro e w3 ⟨rfl, ho3, hm3, hb3, hk3⟩
            have HO3 := Lib.hid ho3
            have HM3 := Lib.hid hm3
            have HB3 := Lib.hid (HBO.out.trans hb3)
            have hz3 := HB3.out.size

            obtain ⟨v0, v1, v2⟩ := o_cells (o := ⟨(kp : Int), r, q⟩) (hk3 _ _ _ HOC.out (by decide) (by decide))
            clear ho3 hm3 hb3 hk3
            go_wp2_with (first | (at_mapUpdate; refine wpList_mapUpdate_own _ rfl _ _ _ 45 rfl 3 3 lawI Try.underlying45 _ M k _ rfl HM3.out (by unfold maxLen; omega) _ _ _ rfl rfl (Go.Maps.keyOf_int_mk Try.underlying3 HWP.out) _ [] (plainElem_int Try.underlying3 HWX.out) ?_; intro w4 hown4 hg4; have HM4 : Hid (MapD w4 M (k + 1) _) := Lib.hid hown4; clear hown4) | (at_range; refine wpList_range_own _ rfl _ 45 rfl 3 3 lawI Try.underlying45 _ M (k + 1) _ rfl HM4.out ?_; intro w5 hrg5 hg5 hs5) | fail)
            (first | go_frame | skip)
            have hz4 : w.heap.size ≤ w4.heap.size := Nat.le_trans hz3 hg4.size
            have HB4 : Hid (Below w.heap.size w w4) := Lib.hid (HB3.out.trans ⟨hg4.os, hg4.tape, hg4.output, hg4.size, fun j hj => hg4.block j (by omega) (fun e => by injection e with e; omega)⟩)
            have HO4 := Lib.hid (HO3.out.kept hg4 (map_not HM3.out))
            have HR4 := HX
            clear hg4 HM3 HO3 HB3 v0 v1 v2

            have HRR := Lib.hid hz4
            have HLR : Hid (LRel w P M w4.heap.size (k + 1) E2 (D.put (.int .i64 kp) (.lit (.int .i64 (r)))) w5) := Lib.hid ⟨_, _, hrg5, fun kl h => h, HO4.out.kept hg5 (fun b e => by cases e), HB4.out.trans ⟨hg5.os, hg5.tape, hg5.output, hg5.size, fun k hk => hg5.block k (by omega) (by simp)⟩⟩
            clear hrg5 hg5 hs5
            go_loopw [7] (fun _ wi => LRel w P M w4.heap.size (k + 1) E2 (D.put (.int .i64 kp) (.lit (.int .i64 (r)))) wi) (fun _ wi => wi.rangeLeft M w4.heap.size)
            case atStart => exact HLR.out
            case round =>
              obtain ⟨left, cnt, hrg, hleft, ho, hb⟩ := hrel
              have HRG := Lib.hid hrg
              have HLF := Lib.hid hleft
              have HOI := Lib.hid ho
              have HBI := Lib.hid hb
              clear hrg hleft ho hb HLR
              go_wp2_with (first | (at_next; refine wpList_next_ranges_ii _ rfl _ rfl 3 3 .i64 .i64 lawI Try.underlying3 Try.underlying3 M w4.heap.size (k + 1) _ _ _ rfl HRG.out ?_ ?_) | fail)
              · intro hc0 hl0
                clear hc0 hl0
                go_wp2_with fail
                go_roundw
                case rel => exact ⟨k + 1, by omega, by go_num, E2, (D.put (.int .i64 kp) (.lit (.int .i64 (r)))), HN4.out, HOI.out, World.ownsMap.mono HRG.out.owns (Nat.le_refl _), HR4.out, HBI.out⟩
                case measure => simp [intOf]; omega
              · intro x c1 w6 cnt1 hwx hwc hlx hat hrg1 hlt1 hg1 hs1 hen
                have HGX := Lib.hid (HR4.out.read (HLF.out _ hlx) hat)
                have HO6 := Lib.hid (HOI.out.kept hg1 (range_not HRG.out))
                have HLR6 : Hid (LRel w P M w4.heap.size (k + 1) E2 (D.put (.int .i64 kp) (.lit (.int .i64 (r)))) w6 ∧ w6.rangeLeft M w4.heap.size = cnt1 ∧ cnt1 < cnt) := Lib.hid ⟨⟨_, _, hrg1, fun kl h => HLF.out kl (by rw [Bool.and_eq_true] at h; exact h.1), HO6.out, HBI.out.trans ⟨hg1.os, hg1.tape, hg1.output, hg1.size, fun k hk => hg1.block k (by have := HBI.out.size; omega) (fun e => by injection e with e; have := HRR.out; omega)⟩⟩, hrg1.left_eq, hlt1⟩
                have HCN := Lib.hid HRG.out.left_eq
                clear hwx hwc hlx hat hrg1 hlt1 hg1 hs1
                go_wp2_with fail
                refine (get_one HO6.out _).mono ?_
                rw [HGX.out]
                rintro e w7 ⟨rfl, rfl⟩
                go_wp2_with fail
                go_roundw
                case rel => exact HLR6.out.1
                case measure => rw [HLR6.out.2.1, HCN.out]; exact HLR6.out.2.2
        ·
          have he2 : E2 = L ∧ (E1 == 0) = false := setR_bad HE.out hbad
          obtain ⟨hEL, he0⟩ := he2
          subst hEL
          clear hbad HE

          go_wp2_with fail
          refine C3.out.mono ?_
          rintro e w4 ⟨rfl, ho4, hm4, hb4, hk4⟩
          have HO4 := Lib.hid ho4
          have HM4 := Lib.hid hm4
          have HB4 := Lib.hid (HBO.out.trans hb4)
          have hz4 := HB4.out.size

          clear ho4 hm4 hb4 hk4
          have HN4 := HN
          have HR4 := HR
          go_wp2_with (first | (at_range; refine wpList_range_own _ rfl _ 45 rfl 3 3 lawI Try.underlying45 _ M k _ rfl HM4.out ?_; intro w5 hrg5 hg5 hs5) | fail)
          (first | go_frame | skip)

          have HRR := Lib.hid hz4
          have HLR : Hid (LRel w P M w4.heap.size k E2 D w5) := Lib.hid ⟨_, _, hrg5, fun kl h => h, HO4.out.kept hg5 (fun b e => by cases e), HB4.out.trans ⟨hg5.os, hg5.tape, hg5.output, hg5.size, fun k hk => hg5.block k (by omega) (by simp)⟩⟩
          clear hrg5 hg5 hs5
          go_loopw [7] (fun _ wi => LRel w P M w4.heap.size k E2 D wi) (fun _ wi => wi.rangeLeft M w4.heap.size)
          case atStart => exact HLR.out
          case round =>
            obtain ⟨left, cnt, hrg, hleft, ho, hb⟩ := hrel
            have HRG := Lib.hid hrg
            have HLF := Lib.hid hleft
            have HOI := Lib.hid ho
            have HBI := Lib.hid hb
            clear hrg hleft ho hb HLR
            go_wp2_with (first | (at_next; refine wpList_next_ranges_ii _ rfl _ rfl 3 3 .i64 .i64 lawI Try.underlying3 Try.underlying3 M w4.heap.size k _ _ _ rfl HRG.out ?_ ?_) | fail)
            · intro hc0 hl0
              clear hc0 hl0
              go_wp2_with fail
              go_roundw
              case rel => exact ⟨k + 1, by omega, by go_num, E2, D, HN4.out, HOI.out, World.ownsMap.mono HRG.out.owns (Nat.le_succ _), HR4.out, HBI.out⟩
              case measure => simp [intOf]; omega
            · intro x c1 w6 cnt1 hwx hwc hlx hat hrg1 hlt1 hg1 hs1 hen
              have HGX := Lib.hid (HR4.out.read (HLF.out _ hlx) hat)
              have HO6 := Lib.hid (HOI.out.kept hg1 (range_not HRG.out))
              have HLR6 : Hid (LRel w P M w4.heap.size k E2 D w6 ∧ w6.rangeLeft M w4.heap.size = cnt1 ∧ cnt1 < cnt) := Lib.hid ⟨⟨_, _, hrg1, fun kl h => HLF.out kl (by rw [Bool.and_eq_true] at h; exact h.1), HO6.out, HBI.out.trans ⟨hg1.os, hg1.tape, hg1.output, hg1.size, fun k hk => hg1.block k (by have := HBI.out.size; omega) (fun e => by injection e with e; have := HRR.out; omega)⟩⟩, hrg1.left_eq, hlt1⟩
              have HCN := Lib.hid HRG.out.left_eq
              clear hwx hwc hlx hat hrg1 hlt1 hg1 hs1
              go_wp2_with fail
              refine (get_one HO6.out _).mono ?_
              rw [HGX.out]
              rintro e w7 ⟨rfl, rfl⟩
              go_wp2_with fail
              go_roundw
              case rel => exact HLR6.out.1
              case measure => rw [HLR6.out.2.1, HCN.out]; exact HLR6.out.2.2
    · obtain rfl : k = n := by omega
      go_wp2_with fail
      refine (pages_one HO.out).mono ?_
      rintro e w3 ⟨rfl, rfl⟩
      go_wp2_with (first | (at_len; refine wpList_len_own _ rfl _ 45 rfl 3 3 Try.underlying45 _ M k _ rfl HM.out ?_) | fail)
      rw [HR.out.size]
      go_wp2_with fail
      go_ret
      exact ⟨by show Ending.returned (.bool (((L.length : Nat) : Int) == ((L.length : Nat) : Int))) = _; rw [beq_self_eq_true], HB.out⟩
end Go.Proofs.Ytghlconkmbmflaa.Room
