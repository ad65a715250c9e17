/- lapidaryref05: a slot written over; Stamp. -/
import Derived.Test.YtbpgjpopmohbmaaRfB
import Derived.BigRegion
namespace Go.Proofs.Ytbpgjpopmohbmaa.Mem
open Go.RowKit Go.Proofs.Ytbpgjpopmohbmaa.Nums
set_option linter.unusedVariables false
set_option linter.unusedSimpArgs false
set_option maxRecDepth 100000
set_option maxHeartbeats 2000000
theorem ents_map_set {E : List Ent} {i : Nat} {o : Option (Ver × Nat)} {u : Value} : (E.set i (o, u)).map Prod.fst = (E.map Prod.fst).set i o := by rw [List.map_set]
/-- cells written one behind the other -/
def putN (w : World) (g : Nat) : Nat → List Value → World
  | _, [] => w
  | b, v :: l => putN (w.setCell ⟨g, b, none⟩ v) g (b + 1) l
theorem putN_blk (g : Nat) (t : TypeId) : ∀ (l : List Value) (b : Nat) (w : World) (cur : Array Value), Blk w g t cur → b + l.length ≤ cur.size → ∃ cur', Blk (putN w g b l) g t cur' ∧ cur'.toList = cur.toList.take b ++ l ++ cur.toList.drop (b + l.length)
  | [], b, w, cur, h, _ => ⟨cur, h, by simp⟩
  | v :: l, b, w, cur, h, hb => by
    rw [List.length_cons] at hb
    obtain ⟨cur', h1, h2⟩ := putN_blk g t l (b + 1) (w.setCell ⟨g, b, none⟩ v) (cur.setIfInBounds b v) (Blk.set_ h b v) (by rw [Array.size_setIfInBounds]; omega)
    refine ⟨cur', h1, ?_⟩
    rw [h2, Array.toList_setIfInBounds]
    have hl : b < cur.toList.length := by rw [Array.length_toList]; omega
    rw [List.take_set, List.drop_set, if_pos (by omega), List.take_succ_eq_append_getElem hl, List.set_append_right _ _ (by rw [List.length_take]; omega), List.length_take, Nat.min_eq_left (by omega), Nat.sub_self, List.set_cons_zero, List.length_cons, show b + (l.length + 1) = b + 1 + l.length by omega]
    simp
theorem putN_only (g : Nat) : ∀ (l : List Value) (b : Nat) (w : World), Only g w (putN w g b l)
  | [], b, w => Only.refl g w
  | v :: l, b, w => ((Only.refl g w).set_ b v).trans (putN_only g l (b + 1) _)
section
variable {w : World} {F : Nat → Prop} {R st c : Nat} {E : List Ent} {A : Option Addr}
/-- only the array's block has turned -/
theorem RfA.arrOnly (h : RfA w F R E st A c) {i g : Nat} {e' : Ent} {w' : World} {cur' : Array Value} (hi : i < E.length) (hA : A = some ⟨g, 0, none⟩) (ho : Only g w w') (hb : Blk w' g 122 cur') (hs : cur'.size = c * 8) (ht : cur'.toList.take (E.length * 8) = ents (E.set i e'))
    (hd : ∀ (v : Ver) (f : Nat) (u : Value), e' = (some (v, f), u) → OwnB w 0 u v.d.length (u8s v.d) ∧ ∀ k, u.ownBlock = some k → F k) : RfA w' F R (E.set i e') st A c := by
  have hle := h.le
  obtain ⟨g', cur, hA', hg, _, _, hFg⟩ := h.arr hi
  rw [hA] at hA'
  injection hA' with hA'; injection hA' with hA'
  subst hA'
  have hRg : R ≠ g := Blk.ne_ h.blk hg (by decide)
  have keep : ∀ {u : Value} {n : Nat} {xs : List Value}, OwnB w 0 u n xs → OwnB w' 0 u n xs := fun hu => own_keep hu fun k hk => ho.block k (hu.lt k hk).2 (fun e => own_blk_ne hu hg (by decide) (by rw [hk, e]))
  refine ⟨by rw [List.length_set]; exact ho.blk h.blk hRg, h.fr, ?_, ?_, ?_, fun k hk => Nat.lt_of_lt_of_le (h.lt k hk) ho.size⟩
  · rw [List.length_set]
    refine ⟨by rw [ents_len, List.length_set], .inr ⟨g, c, cur', by rw [hA], Nat.zero_le _, hb, hle.1, hle.2, hs, ht⟩⟩
  · rw [List.length_set]; exact h.fown
  · intro k v f u hk
    rw [List.getElem?_set] at hk
    by_cases hik : i = k
    · rw [if_pos hik, if_pos hi] at hk
      injection hk with hk
      obtain ⟨h1, h2⟩ := hd v f u hk
      exact ⟨keep h1, h2⟩
    · rw [if_neg hik] at hk
      obtain ⟨h1, h2⟩ := h.data k v f u hk
      exact ⟨keep h1, h2⟩
theorem RfA.put (h : RfA w F R E st A c) {i g j : Nat} {e e' : Ent} {x : Value} (he : E[i]? = some e) (hA : A = some ⟨g, 0, none⟩) (hj : j < 8) (hx : entV e' = (entV e).set j x)
    (hd : ∀ (v : Ver) (f : Nat) (u : Value), e' = (some (v, f), u) → OwnB w 0 u v.d.length (u8s v.d) ∧ ∀ k, u.ownBlock = some k → F k) : RfA (w.setCell ⟨g, i * 8 + j, none⟩ x) F R (E.set i e') st A c := by
  have hi := (List.getElem?_eq_some_iff.1 he).1
  obtain ⟨g', cur, hA', hg, hs, ht, hFg⟩ := h.arr hi
  rw [hA] at hA'
  injection hA' with hA'; injection hA' with hA'
  subst hA'
  refine h.arrOnly hi hA ((Only.refl g w).set_ _ _) (Blk.set_ hg (i * 8 + j) x) (by rw [Array.size_setIfInBounds]; exact hs) ?_ hd
  rw [Array.toList_setIfInBounds, List.take_set, ht, ents_set he hj hx]
theorem ents_cut {E : List Ent} {i : Nat} (hi : i < E.length) (e' : Ent) : ents (E.set i e') = (ents E).take (i * 8) ++ entV e' ++ (ents E).drop (i * 8 + 8) := by
  have h1 : ents E = ents (E.take i) ++ ents (E.drop i) := by rw [← ents_app, List.take_append_drop]
  have h2 : ents (E.drop i) = entV E[i] ++ ents (E.drop (i + 1)) := by rw [List.drop_eq_getElem_cons hi]; rfl
  have l1 : (ents (E.take i)).length = i * 8 := by rw [ents_len, List.length_take]; omega
  rw [List.set_eq_take_append_cons_drop, if_pos hi, ents_app]
  show ents (E.take i) ++ (entV e' ++ ents (E.drop (i + 1))) = _
  have t1 : (ents E).take (i * 8) = ents (E.take i) := by rw [h1, List.take_append_of_le_length (by omega), List.take_of_length_le (by omega)]
  have t2 : (ents E).drop (i * 8 + 8) = ents (E.drop (i + 1)) := by
    rw [h1, h2, ← List.append_assoc, List.drop_append_of_le_length (by rw [List.length_append, l1, entV_len]; omega), List.drop_of_length_le (by rw [List.length_append, l1, entV_len]; omega), List.nil_append]
  rw [t1, t2, List.append_assoc]
theorem RfA.putE (h : RfA w F R E st A c) {i g : Nat} {e' : Ent} (hi : i < E.length) (hA : A = some ⟨g, 0, none⟩)
    (hd : ∀ (v : Ver) (f : Nat) (u : Value), e' = (some (v, f), u) → OwnB w 0 u v.d.length (u8s v.d) ∧ ∀ k, u.ownBlock = some k → F k) : RfA (putN w g (i * 8) (entV e')) F R (E.set i e') st A c := by
  obtain ⟨g', cur, hA', hg, hs, ht, hFg⟩ := h.arr hi
  rw [hA] at hA'
  injection hA' with hA'; injection hA' with hA'
  subst hA'
  have hle := h.le
  obtain ⟨cur', h1, h2⟩ := putN_blk g _ (entV e') (i * 8) w cur hg (by rw [entV_len]; omega)
  have hl : cur'.toList.length = c * 8 := by
    rw [h2, List.length_append, List.length_append, List.length_take, List.length_drop, entV_len, Array.length_toList, hs]
    omega
  refine h.arrOnly hi hA (putN_only g _ _ _) h1 (by rw [← Array.length_toList]; exact hl) ?_ hd
  rw [h2, ents_cut hi, entV_len, ← ht]
  have a1 : (cur.toList.take (i * 8) ++ entV e').length = i * 8 + 8 := by rw [List.length_append, List.length_take, entV_len, Array.length_toList]; omega
  rw [List.take_append, a1, List.take_of_length_le (by rw [a1]; omega), List.take_take, Nat.min_eq_left (by omega), List.drop_take]
end
theorem RfA.three {w : World} {F : Nat → Prop} {R st c : Nat} {E : List Ent} {A : Option Addr} (h : RfA w F R E st A c) {j g a b d : Nat} {e0 e1 e2 e3 : Ent} {x y z : Value} (he : E[j]? = some e0) (hA : A = some ⟨g, 0, none⟩) (ha : a < 8) (hb : b < 8) (hd : d < 8)
    (h1 : entV e1 = (entV e0).set a x) (h2 : entV e2 = (entV e1).set b y) (h3 : entV e3 = (entV e2).set d z)
    (k1 : ∀ (v : Ver) (f : Nat) (u : Value), e1 = (some (v, f), u) → OwnB w 0 u v.d.length (u8s v.d) ∧ ∀ k, u.ownBlock = some k → F k)
    (k2 : ∀ (w : World), RfA w F R (E.set j e1) st A c → ∀ (v : Ver) (f : Nat) (u : Value), e2 = (some (v, f), u) → OwnB w 0 u v.d.length (u8s v.d) ∧ ∀ k, u.ownBlock = some k → F k)
    (k3 : ∀ (w : World), RfA w F R (E.set j e2) st A c → ∀ (v : Ver) (f : Nat) (u : Value), e3 = (some (v, f), u) → OwnB w 0 u v.d.length (u8s v.d) ∧ ∀ k, u.ownBlock = some k → F k) :
    RfA ((((w.setCell ⟨g, j * 8 + a, none⟩ x).setCell ⟨g, j * 8 + b, none⟩ y).setCell ⟨g, j * 8 + d, none⟩ z)) F R (E.set j e3) st A c ∧ Only g w ((((w.setCell ⟨g, j * 8 + a, none⟩ x).setCell ⟨g, j * 8 + b, none⟩ y).setCell ⟨g, j * 8 + d, none⟩ z)) := by
  have hj := (List.getElem?_eq_some_iff.1 he).1
  have q1 := h.put he hA ha h1 k1
  have q2 := q1.put (e := e1) (e' := e2) (x := y) (by rw [List.getElem?_set, if_pos rfl, if_pos hj]) hA hb h2 (k2 _ q1)
  rw [List.set_set] at q2
  have q3 := q2.put (e := e2) (e' := e3) (x := z) (by rw [List.getElem?_set, if_pos rfl, if_pos hj]) hA hd h3 (k3 _ q2)
  rw [List.set_set] at q3
  exact ⟨q3, (((Only.refl g w).set_ _ _).set_ _ _).set_ _ _⟩
theorem RfA.drew {w : World} {F : Nat → Prop} {R st c : Nat} {E : List Ent} {A : Option Addr} (h : RfA w F R E st A c) : RfA w.drew F R E st A c := h.keep (fun _ _ => rfl) (Nat.le_refl _)
theorem RfA.drewN {w : World} {F : Nat → Prop} {R st c : Nat} {E : List Ent} {A : Option Addr} (h : RfA w F R E st A c) (n : Nat) : RfA (w.drewN n) F R E st A c := h.keep (fun _ _ => rfl) (Nat.le_refl _)
theorem rstamp_nil (i : Int) (U : Nat) (p s : Int) (w : World) : Calls Try.prog 62 #[.pointer none, .int .i64 i, .int .u64 U, .agg #[.int .i64 p, .int .i64 s]] w fun e w' => e = .returned (.int .i64 15) ∧ Below w.heap.size w w' := by
  go_enter Try.func62, Try.ntmps62
  go_wp2_with fail
  go_ret
  exact ⟨rfl, bel_alloc _ _⟩
theorem rstamp_form (R : Nat) (i : Int) (U : Nat) (p s : Int) (w : World) (h : ¬ (U ≤ 1099511627776 ∧ nxOk p s = true)) : Calls Try.prog 62 #[.pointer (some ⟨R, 0, none⟩), .int .i64 i, .int .u64 U, .agg #[.int .i64 p, .int .i64 s]] w fun e w' => e = .returned (.int .i64 3) ∧ Below w.heap.size w w' := by
  by_cases hU : U ≤ 1099511627776
  · have hU' : ¬ (1099511627776 : Int) < U := by omega
    have hf : farB p s = true := by
      rw [far_not]
      cases hx : nxOk p s
      · rfl
      · exact absurd ⟨hU, hx⟩ h
    have CF := Lib.hid (far_any p s (w.alloc (.cells #[.int .i64 p, .int .i64 s] 30)))
    rw [hf] at CF
    clear h
    go_enter Try.func62, Try.ntmps62
    go_wp2_with fail
    refine CF.out.mono ?_
    rintro e w2 ⟨rfl, hb⟩
    have HB := Lib.hid (bel_trans (bel_alloc _ _) hb)
    clear hb
    go_wp2_with fail
    go_ret
    exact ⟨rfl, HB.out⟩
  · have hU' : (1099511627776 : Int) < U := by omega
    clear h
    go_enter Try.func62, Try.ntmps62
    go_wp2_with fail
    go_ret
    exact ⟨rfl, bel_alloc _ _⟩
section
variable {w : World} {F : Nat → Prop} {R st c : Nat} {E : List Ent} {A : Option Addr}
theorem rstamp_none (h : RfA w F R E st A c) (i : Int) (U : Nat) (p s : Int) (hn : atL (E.map Prod.fst) i = none) (hU : U ≤ 1099511627776) (hx : nxOk p s = true) :
    Calls Try.prog 62 #[.pointer (some ⟨R, 0, none⟩), .int .i64 i, .int .u64 U, .agg #[.int .i64 p, .int .i64 s]] w fun e w' => e = .returned (.int .i64 15) ∧ Below w.heap.size w w' := by
  have hU' : ¬ (1099511627776 : Int) < U := by omega
  have CF := Lib.hid (far_any p s (w.alloc (.cells #[.int .i64 p, .int .i64 s] 30)))
  rw [far_not, hx] at CF
  have CG : Hid (∀ w0, Below w.heap.size w w0 → Calls Try.prog 27 #[.pointer (some ⟨R, 0, none⟩), .int .i64 i] w0 fun e w' => e = .returned (.tuple #[zeroT, .bool false]) ∧ Below w0.heap.size w0 w') := Lib.hid fun w0 hb => rget_none (h.below hb) i hn
  unfold zeroT at CG
  clear h hx hn
  go_enter Try.func62, Try.ntmps62
  go_wp2_with fail
  refine CF.out.mono ?_
  rintro e w2 ⟨rfl, hb⟩
  have HB := Lib.hid (bel_trans (bel_alloc _ _) hb)
  clear hb
  go_wp2_with fail
  refine (CG.out _ HB.out).mono ?_
  rintro e w3 ⟨rfl, hb3⟩
  have HB3 := Lib.hid (bel_trans HB.out hb3)
  clear hb3
  go_wp2_with fail
  go_ret
  exact ⟨rfl, bel_trans HB3.out (bel_alloc _ _)⟩
theorem rstamp_some (h : RfA w F R E st A c) (j : Nat) (v : Ver) (f : Nat) (u : Value) (U P1 S1 : Nat) (p s : Int) (he : E[j]? = some (some (v, f), u)) (hU : U ≤ 1099511627776) (hx : nxOk p s = true) (hp : p + 1 = P1) (hs : s + 1 = S1) :
    Calls Try.prog 62 #[.pointer (some ⟨R, 0, none⟩), .int .i64 j, .int .u64 U, .agg #[.int .i64 p, .int .i64 s]] w fun e w' => e = .returned (.int .i64 0) ∧ RfA w' F R (E.set j (some (v.stamped U P1 S1, f), u)) st A c ∧ Turn F w w' := by
  have hU' : ¬ (1099511627776 : Int) < U := by omega
  have CF := Lib.hid (far_any p s (w.alloc (.cells #[.int .i64 p, .int .i64 s] 30)))
  rw [far_not, hx] at CF
  have HT : Hid (Blk (w.alloc (.cells #[.int .i64 p, .int .i64 s] 30)) w.heap.size 30 #[.int .i64 p, .int .i64 s]) := Lib.hid (Blk.new w _ _)
  have H := Lib.hid h
  have HE := Lib.hid he
  have hjl : j < E.length := (List.getElem?_eq_some_iff.1 he).1
  obtain ⟨g, cur, rfl, _, _, _, hFg⟩ := h.arr hjl
  have hjl' : (j : Int) < E.length := by omega
  have hle := h.le
  unfold maxLen at hle
  obtain ⟨Au, cu, rfl, hsl⟩ := Sl.of_own (h.data j v f u he).1
  have hszw := size_alloc w (.cells #[.int .i64 p, .int .i64 s] 30)
  clear h hx he hsl
  go_enter Try.func62, Try.ntmps62
  go_wp2_with fail
  refine CF.out.mono ?_
  rintro e w2 ⟨rfl, hb⟩
  have HB := Lib.hid (bel_trans (bel_alloc _ _) hb)
  have HT2 := Lib.hid (Blk.below HT.out hb (by omega))
  clear hb
  have CG := Lib.hid (rget_some (H.out.below HB.out) j v f _ HE.out)
  unfold tupV at CG
  go_wp2_with fail
  refine CG.out.mono ?_
  rintro e w3 ⟨rfl, hb3⟩
  have HB3 := Lib.hid (bel_trans HB.out hb3)
  have HT3 := Lib.hid (Blk.below HT2.out hb3 (Blk.lt HT2.out))
  clear hb3
  obtain ⟨w4, hw4⟩ : ∃ w4, w3.alloc (.cells #[.int .u64 v.r, .int .u64 v.a, .int .u64 v.b, .int .i64 ((v.p : Int) - 1), .int .i64 ((v.s : Int) - 1), .slice Au v.d.length cu] 33) = w4 := ⟨_, rfl⟩
  have HB4 : Hid (Below w.heap.size w w4) := Lib.hid (by rw [← hw4]; exact bel_trans HB3.out (bel_alloc _ _))
  have HT4 : Hid (Blk w4 w.heap.size 30 #[.int .i64 p, .int .i64 s]) := Lib.hid (by rw [← hw4]; exact Blk.alloc HT3.out _)
  have H4 := Lib.hid (H.out.below HB4.out)
  have HW4 := Lib.hid hw4
  clear hw4
  go_wp2_with fail
  rw [HW4.out]
  have eP : ((P1 : Int) - 1) = p := by omega
  have eS : ((S1 : Int) - 1) = s := by omega
  have dat : ∀ (w : World) (x : Ver) (E' : List Ent), x.d = v.d → RfA w F R E' st (some ⟨g, 0, none⟩) c → E'[j]? = some (some (x, f), .slice Au v.d.length cu) → ∀ (y : Ver), y.d = v.d → ∀ (v' : Ver) (f' : Nat) (u : Value), ((some (y, f), Value.slice Au v.d.length cu) : Ent) = (some (v', f'), u) → OwnB w 0 u v'.d.length (u8s v'.d) ∧ ∀ k, u.ownBlock = some k → F k := by
    intro w x E' hx hR hE y hy v' f' u hh
    injection hh with h1 h2
    injection h1 with h1
    injection h1 with h1 h3
    subst h1 h2 h3
    have := hR.data j x f _ hE
    rw [hx] at this
    rw [hy]
    exact this
  have self : ∀ e1 : Ent, (E.set j e1)[j]? = some e1 := fun e1 => by rw [List.getElem?_set, if_pos rfl, if_pos hjl]
  have fin1 := RfA.three H4.out (a := 3) (b := 4) (d := 5) (e1 := (some (⟨v.r, v.a, U, v.p, v.s, v.d⟩, f), .slice Au v.d.length cu)) (e2 := (some (⟨v.r, v.a, U, P1, v.s, v.d⟩, f), .slice Au v.d.length cu)) (e3 := (some (v.stamped U P1 S1, f), .slice Au v.d.length cu)) (x := .int .u64 U) (y := .int .i64 p) (z := .int .i64 s) HE.out rfl (by omega) (by omega) (by omega) rfl (by simp only [entV, eP]; rfl) (by simp only [entV, eP, eS, Ver.stamped]; rfl)
    (dat _ v E rfl H4.out HE.out _ rfl) (fun w hR => dat w ⟨v.r, v.a, U, v.p, v.s, v.d⟩ _ rfl hR (self _) _ rfl) (fun w hR => dat w ⟨v.r, v.a, U, P1, v.s, v.d⟩ _ rfl hR (self _) _ rfl)
  have fin2 := RfA.three H4.out (a := 4) (b := 5) (d := 3) (e1 := (some (⟨v.r, v.a, v.b, P1, v.s, v.d⟩, f), .slice Au v.d.length cu)) (e2 := (some (⟨v.r, v.a, v.b, P1, S1, v.d⟩, f), .slice Au v.d.length cu)) (e3 := (some (v.stamped U P1 S1, f), .slice Au v.d.length cu)) (x := .int .i64 p) (y := .int .i64 s) (z := .int .u64 U) HE.out rfl (by omega) (by omega) (by omega) (by simp only [entV, eP]; rfl) (by simp only [entV, eP, eS]; rfl) (by simp only [entV, eP, eS, Ver.stamped]; rfl)
    (dat _ v E rfl H4.out HE.out _ rfl) (fun w hR => dat w ⟨v.r, v.a, v.b, P1, v.s, v.d⟩ _ rfl hR (self _) _ rfl) (fun w hR => dat w ⟨v.r, v.a, v.b, P1, S1, v.d⟩ _ rfl hR (self _) _ rfl)
  have FIN : Hid (∀ w', Only g w4 w' → Turn F w w') := Lib.hid fun w' ho => (Turn.of_below HB4.out).trans (Turn.of_only ho hFg)
  have FIN1 := Lib.hid fin1
  have FIN2 := Lib.hid fin2
  clear fin1 fin2 self dat
  have x0 := H4.out.blk.cell 0
  have x1 := H4.out.blk.cell 1
  obtain ⟨y0, y1, y2, y3, y4, y5, y6, y7⟩ := H4.out.full8 HE.out rfl
  have t0 := HT4.out.cell 0
  have t1 := HT4.out.cell 1
  have z3 := H4.out.frozen hjl rfl (j * 8 + 3)
  have z4 := H4.out.frozen hjl rfl (j * 8 + 4)
  have z5 := H4.out.frozen hjl rfl (j * 8 + 5)
  clear y0 y1 y2 y6 y7
  go_region_with fail
  all_goals (go_wp2_with fail; go_ret)
  all_goals first
    | exact ⟨rfl, RfA.drew FIN1.out.1, (FIN.out _ FIN1.out.2).drewN 1⟩
    | exact ⟨rfl, RfA.drew FIN2.out.1, (FIN.out _ FIN2.out.2).drewN 1⟩
end
end Go.Proofs.Ytbpgjpopmohbmaa.Mem
