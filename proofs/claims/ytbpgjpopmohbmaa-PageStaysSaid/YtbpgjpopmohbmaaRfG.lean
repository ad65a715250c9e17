/- lapidaryref05.Insert: what holds between its steps. -/
import Derived.Test.YtbpgjpopmohbmaaRfE
namespace Go.Proofs.Ytbpgjpopmohbmaa.Mem
open Go.RowKit Go.Proofs.Ytbpgjpopmohbmaa.Nums
set_option linter.unusedVariables false
set_option linter.unusedSimpArgs false
set_option maxRecDepth 100000
set_option maxHeartbeats 200000
structure RIn (w wr : World) (F : Nat → Prop) (b0 R : Nat) (E : List Ent) (st : Nat) (A : Option Addr) (c : Nat) (box : Array Value) (u : Value) (d : List UInt8) : Prop where
  rf : RfA wr (fun g => F g ∨ (b0 ≤ g ∧ g < wr.heap.size)) R E st A c
  box : Blk wr b0 33 box
  dat : OwnB wr (b0 + 1) u d.length (u8s d)
  tur : Turn F w wr
  ge : w.heap.size = b0
section
variable {w wr w' : World} {F : Nat → Prop} {b0 R st c : Nat} {E : List Ent} {A : Option Addr} {box : Array Value} {u : Value} {d : List UInt8}
theorem RIn.step (h : RIn w wr F b0 R E st A c box u d) {x : Nat} {t : TypeId} {cs : Array Value} {E' : List Ent} {st' : Nat} (ho : Only x wr w') (hx : Blk wr x t cs) (h1 : 33 ≠ t) (h2 : 5 ≠ t) (hF : F x ∨ (b0 ≤ x ∧ x < wr.heap.size)) (hr : RfA w' (fun g => F g ∨ (b0 ≤ g ∧ g < wr.heap.size)) R E' st' A c) :
    RIn w w' F b0 R E' st' A c box u d := by
  refine ⟨hr.more (fun g hg => hg.imp id fun k => ⟨k.1, Nat.lt_of_lt_of_le k.2 ho.size⟩) (fun g hg => ?_), ho.blk h.box (Blk.ne_ h.box hx h1), own_keep h.dat fun g hg => ho.block g (h.dat.lt g hg).2 (fun e => own_blk_ne h.dat hx h2 (by rw [hg, e])), ⟨ho.os.trans h.tur.os, ho.tape.trans h.tur.tape, ho.output.trans h.tur.output, Nat.le_trans h.tur.size ho.size, fun k hk hn => ?_⟩, h.ge⟩
  · rcases hg with hg | hg
    · exact Nat.lt_of_lt_of_le (h.rf.lt g (.inl hg)) ho.size
    · exact hg.2
  · rw [ho.block k (Nat.lt_of_lt_of_le hk h.tur.size) (fun e => ?_)]
    · exact h.tur.block k hk hn
    · subst e
      rcases hF with hF | hF
      · exact hn hF
      · have := h.ge; omega
theorem RIn.below (h : RIn w wr F b0 R E st A c box u d) (hb : Below wr.heap.size wr w') : RIn w w' F b0 R E st A c box u d := by
  refine ⟨(h.rf.below hb).more (fun g hg => hg.imp id fun k => ⟨k.1, Nat.lt_of_lt_of_le k.2 hb.size⟩) (fun g hg => ?_), Blk.below h.box hb (Blk.lt h.box), own_keep h.dat fun g hg => hb.block g (h.dat.lt g hg).2, h.tur.trans (Turn.of_below hb), h.ge⟩
  rcases hg with hg | hg
  · exact Nat.lt_of_lt_of_le (h.rf.lt g (.inl hg)) hb.size
  · exact hg.2
theorem RIn.drewN (h : RIn w wr F b0 R E st A c box u d) (n : Nat) : RIn w (wr.drewN n) F b0 R E st A c box u d := h.below ⟨rfl, rfl, rfl, Nat.le_refl _, fun _ _ => rfl⟩
theorem RIn.drew (h : RIn w wr F b0 R E st A c box u d) : RIn w wr.drew F b0 R E st A c box u d := h.below ⟨rfl, rfl, rfl, Nat.le_refl _, fun _ _ => rfl⟩
theorem RIn.setSt (h : RIn w wr F b0 R E st A c box u d) (n : Nat) : RIn w (wr.setCell ⟨R, 1, none⟩ (.int .i64 n)) F b0 R E n A c box u d :=
  h.step ((Only.refl R wr).set_ _ _) h.rf.blk (by decide) (by decide) h.rf.fr (h.rf.setSt n)
theorem RIn.put (h : RIn w wr F b0 R E st A c box u d) {i g f n : Nat} {v : Ver} {y : Value} (he : E[i]? = some (some (v, f), y)) (hA : A = some ⟨g, 0, none⟩) : RIn w (wr.setCell ⟨g, i * 8 + 7, none⟩ (.int .i64 n)) F b0 R (E.set i (some (v, n), y)) st A c box u d := by
  have hi := (List.getElem?_eq_some_iff.1 he).1
  obtain ⟨g', cur, hA', hg, _, _, hFg⟩ := h.rf.arr hi
  rw [hA] at hA'
  injection hA' with hA'; injection hA' with hA'
  subst hA'
  refine h.step ((Only.refl g wr).set_ _ _) hg (by decide) (by decide) hFg (h.rf.put he hA (j := 7) (by omega) rfl fun v' f' u' hh => ?_)
  injection hh with h1 h2
  injection h1 with h1
  injection h1 with h1 h3
  subst h1 h2 h3
  exact h.rf.data i v f y he
theorem RIn.putE (h : RIn w wr F b0 R E st A c box u d) {i g n : Nat} {v : Ver} {e' : Ent} (hi : i < E.length) (hA : A = some ⟨g, 0, none⟩) (hv : v.d = d) (he : e' = (some (v, n), u)) : RIn w (putN wr g (i * 8) (entV e')) F b0 R (E.set i e') st A c box u d := by
  have hd0 : OwnB wr 0 u v.d.length (u8s v.d) := by
    rw [hv]
    exact own_mono h.dat (Nat.zero_le _)
  have hdF : ∀ k, u.ownBlock = some k → (F k ∨ (b0 ≤ k ∧ k < wr.heap.size)) := fun k hk => .inr ⟨by have := (h.dat.lt k hk).1; omega, (h.dat.lt k hk).2⟩
  have hr := h.rf.putE (e' := e') hi hA (fun v' f' u' hh => by
    rw [he] at hh
    have h1 : v' = v := by
      have := congrArg Prod.fst hh
      injection this with this
      exact (congrArg Prod.fst this).symm
    have h2 : u' = u := (congrArg Prod.snd hh).symm
    rw [h1, h2]
    exact ⟨hd0, hdF⟩)
  obtain ⟨g', cur, hA', hg, _, _, hFg⟩ := h.rf.arr hi
  rw [hA] at hA'
  injection hA' with hA'; injection hA' with hA'
  subst hA'
  exact h.step (putN_only g _ _ _) hg (by decide) (by decide) hFg hr
end
theorem RIn.grow {w wr w' : World} {F : Nat → Prop} {b0 R st c : Nat} {E : List Ent} {A : Option Addr} {box : Array Value} {u : Value} {d : List UInt8} (h : RIn w wr F b0 R E st A c box u d) {A' : Option Addr} {c' : Nat} {e : Ent} (he : ∀ (v : Ver) (f : Nat) (u : Value), e ≠ (some (v, f), u)) (hown : w'.ownsRow 0 122 8 (.slice A' (E.length + 1) c') (E.length + 1) (ents E ++ ents [e])) (hk : Kin wr w' (.slice A E.length c) (.slice A' (E.length + 1) c')) :
    RIn w (w'.setCell ⟨R, 0, none⟩ (.slice A' (E.length + 1) c')) F b0 R (E ++ [e]) st A' c' box u d := by
  have hb0 : b0 < wr.heap.size := Blk.lt h.box
  have ho : Only R w' (w'.setCell ⟨R, 0, none⟩ (.slice A' (E.length + 1) c')) := (Only.refl R w').set_ _ _
  have hsz : wr.heap.size ≤ (w'.setCell ⟨R, 0, none⟩ (.slice A' (E.length + 1) c')).heap.size := Nat.le_trans hk.1.size ho.size
  have hsw : (w'.setCell ⟨R, 0, none⟩ (.slice A' (E.length + 1) c')).heap.size = w'.heap.size := by simp [World.setCell]
  have old : ∀ k, k < wr.heap.size → k ≠ R → (Value.slice A E.length c).ownBlock ≠ some k → (w'.setCell ⟨R, 0, none⟩ (.slice A' (E.length + 1) c')).heap[k]? = wr.heap[k]? := fun k h1 h2 h3 => (ho.block k (Nat.lt_of_lt_of_le h1 hk.1.size) h2).trans (hk.1.block k h1 h3.symm)
  refine ⟨(h.rf.grow he hown hk).more (fun g hg => ?_) (fun g hg => ?_), ?_, ?_, ⟨ho.os.trans (hk.1.os.trans h.tur.os), ho.tape.trans (hk.1.tape.trans h.tur.tape), ho.output.trans (hk.1.output.trans h.tur.output), Nat.le_trans h.tur.size hsz, fun k h1 h2 => ?_⟩, h.ge⟩
  · rcases hg with (hg | hg) | hg
    · exact .inl hg
    · exact .inr ⟨hg.1, Nat.lt_of_lt_of_le hg.2 hsz⟩
    · exact .inr ⟨by omega, by omega⟩
  · rcases hg with hg | hg
    · exact Nat.lt_of_lt_of_le (h.rf.lt g (.inl hg)) hsz
    · exact hg.2
  · exact (old b0 hb0 (Blk.ne_ h.box h.rf.blk (by decide)) (own_blk_ne h.rf.own h.box (by decide))).trans h.box
  · refine own_keep h.dat fun k hk2 => ?_
    have hkl := (h.dat.lt k hk2).2
    refine old k hkl (fun e => own_blk_ne h.dat h.rf.blk (by decide) (by rw [hk2, e])) fun hv => ?_
    rcases h.rf.own.2 with ⟨q1, _⟩ | ⟨g, cap, cur, q1, _, q3, _⟩
    · rw [q1] at hv; simp [Value.ownBlock] at hv
    · rw [q1] at hv
      have hv' : g = k := by simpa [Value.ownBlock] using hv
      subst hv'
      exact own_blk_ne h.dat q3 (by decide) hk2
  · have hkw : k < wr.heap.size := Nat.lt_of_lt_of_le h1 h.tur.size
    have hge := h.ge
    have nF : ∀ g, (F g ∨ (b0 ≤ g ∧ g < wr.heap.size)) → k ≠ g := fun g hg e => by
      subst e
      rcases hg with hg | hg
      · exact h2 hg
      · omega
    rw [old k hkw (nF R h.rf.fr) (fun hv => nF k (h.rf.fown k hv) rfl)]
    exact h.tur.block k h1 h2
/-- what Insert makes of the slots -/
theorem ins_eq {L L1 : SL} {st q M : Nat} {v : Ver} (hq : nextL L = q) (hqL : q ≤ L.length) (hL1 : (q < L.length ∧ L1 = L) ∨ (q = L.length ∧ L1 = L ++ [none])) (hM : max L.length (q + 1) = M) :
    L1.length = M ∧ tot L1 = tot L ∧ (st < v.sz + (4 + 4 * M) → insS L st v = ((packL L1).set q (some (v, 512 - tot L - v.sz)), 512 - tot L - v.sz)) ∧ (¬ st < v.sz + (4 + 4 * M) → insS L st v = (L1.set q (some (v, st - v.sz)), st - v.sz)) := by
  rcases hL1 with ⟨h1, rfl⟩ | ⟨h1, rfl⟩
  · refine ⟨by omega, rfl, fun h => ?_, fun h => ?_⟩
    · unfold insS
      rw [hq, hM, if_pos h]
      unfold putL
      rw [packL_len, if_pos h1]
    · unfold insS
      rw [hq, hM, if_neg h]
      unfold putL
      rw [if_pos h1]
  · refine ⟨by rw [List.length_append]; simp; omega, tot_app_none L, fun h => ?_, fun h => ?_⟩
    · unfold insS
      rw [hq, hM, if_pos h]
      unfold putL
      rw [packL_len, if_neg (by omega), packL_app_none, List.set_append_right _ _ (by rw [packL_len]; omega), packL_len, h1, Nat.sub_self]
      rfl
    · unfold insS
      rw [hq, hM, if_neg h]
      unfold putL
      rw [if_neg (by omega), List.set_append_right _ _ (by omega), h1, Nat.sub_self]
      rfl
end Go.Proofs.Ytbpgjpopmohbmaa.Mem
