/- Texts LoadJ to LPageLoads, one behind the other. -/
import Derived.Test.YtbkdbnkakjogjaaMPLO4
/- lapidaryref05.Load of any 512 bytes. -/
namespace Go.Proofs.Ytbkdbnkakjogjaa.Mem
open Go.RowKit Go.Proofs.Ytbkdbnkakjogjaa.Nums
set_option linter.unusedVariables false
set_option linter.unusedSimpArgs false
set_option maxRecDepth 100000
set_option maxHeartbeats 8000000
/-- what Load makes of bytes -/
def LoadTo (w : World) (X : List UInt8) (e : Ending) (w' : World) : Prop :=
  (LoadOk X ∧ ∃ F R E A cc, e = .returned (.pointer (some ⟨R, 0, none⟩)) ∧ E.map Prod.fst = Lx X ∧ RfA w' F R E (bgN X) A cc ∧ (∀ h, F h → w.heap.size ≤ h) ∧ Below w.heap.size w w') ∨ (¬ LoadOk X ∧ e = .returned (.pointer none) ∧ Below w.heap.size w w')
theorem By.only {w w' : World} {g P : Nat} {X : List UInt8} (h : By w g X) (ho : Only P w w') (hP : g ≠ P) : By w' g X := by
  refine ⟨Nat.lt_of_lt_of_le h.lt ho.size, fun j y hy => ?_⟩
  rw [← h.at_ j y hy]
  unfold World.cell?
  rw [ho.block g h.lt hP]
section
variable {w w' : World} {F : Nat → Prop} {R st c : Nat} {E : List Ent} {A : Option Addr}
theorem RfA.growD (h : RfA w F R E st A c) {A' : Option Addr} {c' : Nat} {e : Ent} (he : ∀ (v : Ver) (f : Nat) (u : Value), e = (some (v, f), u) → OwnB w 0 u v.d.length (u8s v.d) ∧ ∀ g, u.ownBlock = some g → F g) (hown : w'.ownsRow 0 122 8 (.slice A' (E.length + 1) c') (E.length + 1) (ents E ++ ents [e])) (hk : Kin w w' (.slice A E.length c) (.slice A' (E.length + 1) c')) :
    RfA (w'.setCell ⟨R, 0, none⟩ (.slice A' (E.length + 1) c')) (fun g => F g ∨ (w.heap.size ≤ g ∧ g < w'.heap.size)) R (E ++ [e]) st A' c' := by
  have hR : (Value.slice A E.length c).ownBlock ≠ some R := own_blk_ne h.own h.blk (by decide)
  have hbR : Blk w' R 45 #[.slice A E.length c, .int .i64 st] := (hk.1.block R h.blk.lt hR.symm).trans h.blk
  have ho : Only R w' (w'.setCell ⟨R, 0, none⟩ (.slice A' (E.length + 1) c')) := (Only.refl R w').set_ _ _
  have hR' : (Value.slice A' (E.length + 1) c').ownBlock ≠ some R := own_blk_ne hown hbR (by decide)
  have hl : (E ++ [e]).length = E.length + 1 := by simp
  refine ⟨?_, .inl h.fr, ?_, ?_, fun i v f u hu => ?_, fun g hg => ?_⟩
  · rw [hl]
    exact Blk.set_ hbR 0 _
  · rw [hl, ents_app]
    exact own_keep hown fun g hg => ho.block g (hown.lt g hg).2 (fun e => hR' (by rw [hg, e]))
  · rw [hl]
    intro g hg
    rcases hk.2 with h1 | ⟨g', h1, h2⟩
    · left
      refine h.fown g ?_
      rw [← h1, hg]
    · right
      rw [hg] at h1
      injection h1 with h1
      subst h1
      exact ⟨h2, (hown.lt g hg).2⟩
  · have hd : OwnB w 0 u v.d.length (u8s v.d) ∧ ∀ g, u.ownBlock = some g → F g := by
      by_cases hi : i < E.length
      · rw [List.getElem?_append_left hi] at hu
        exact h.data i v f u hu
      · rw [List.getElem?_append_right (by omega)] at hu
        cases hj : i - E.length with
        | zero => rw [hj] at hu; simp at hu; exact he v f u hu
        | succ k => rw [hj] at hu; simp at hu
    obtain ⟨h1, h2⟩ := hd
    refine ⟨own_keep h1 fun k hk2 => ?_, fun k hk2 => .inl (h2 k hk2)⟩
    have hkl := (h1.lt k hk2).2
    have hne : k ≠ R := fun e => own_blk_ne h1 h.blk (by decide) (by rw [hk2, e])
    rw [ho.block k (Nat.lt_of_lt_of_le hkl hk.1.size) hne]
    refine hk.1.block k hkl fun hv => ?_
    rcases h.own.2 with ⟨q1, _⟩ | ⟨g, cap, cur, q1, _, q3, _⟩
    · rw [q1] at hv; simp [Value.ownBlock] at hv
    · rw [q1] at hv
      have hv' : k = g := by simpa [Value.ownBlock] using hv
      subst hv'
      exact own_blk_ne h1 q3 (by decide) hk2
  · rcases hg with hg | hg
    · have := h.lt g hg
      have := hk.1.size
      have := ho.size
      omega
    · have := ho.size
      omega
end
/-- between Load's steps -/
structure LS (w wr : World) (g m0 R : Nat) (X : List UInt8) (st k : Nat) (q : Nat → Bool) (F : Nat → Prop) (E : List Ent) (A : Option Addr) (cc : Nat) : Prop where
  mb : MB wr m0 4 q
  rf : RfA wr F R E st A cc
  by_ : By wr g X
  bel : Below w.heap.size w wr
  hE : E.map Prod.fst = (Lx X).take k
  fm : ¬ F m0
  fB : ∀ h, F h → w.heap.size ≤ h
  gw : g < w.heap.size
  mw : w.heap.size ≤ m0
section
variable {w wr w' : World} {g m0 R : Nat} {X : List UInt8} {st k : Nat} {q : Nat → Bool} {F : Nat → Prop} {E : List Ent} {A : Option Addr} {cc : Nat}
theorem LS.put (h : LS w wr g m0 R X st k q F E A cc) (i : Nat) : LS w (wr.setCell ⟨m0, i, none⟩ (.bool true)) g m0 R X st k (fun j => q j || j == i) F E A cc :=
  have ho : Only m0 wr (wr.setCell ⟨m0, i, none⟩ (.bool true)) := (Only.refl m0 wr).set_ _ _
  have hgm : g ≠ m0 := by have := h.gw; have := h.mw; omega
  ⟨h.mb.put i, h.rf.only ho h.fm, h.by_.only ho hgm, h.bel.trans (ho.below h.bel.size h.mw), h.hE, h.fm, h.fB, h.gw, h.mw⟩
theorem LS.below (h : LS w wr g m0 R X st k q F E A cc) (hb : Below wr.heap.size wr w') : LS w w' g m0 R X st k q F E A cc :=
  ⟨Blk.below h.mb hb (Blk.lt h.mb), h.rf.below hb, h.by_.on hb, h.bel.trans (hb.mono h.bel.size), h.hE, h.fm, h.fB, h.gw, h.mw⟩
theorem LS.drew (h : LS w wr g m0 R X st k q F E A cc) : LS w wr.drew g m0 R X st k q F E A cc := h.below ⟨rfl, rfl, rfl, Nat.le_refl _, fun _ _ => rfl⟩
theorem LS.turn {q' : Nat → Bool} (h : LS w wr g m0 R X st k q F E A cc) (e : q = q') : LS w wr g m0 R X st k q' F E A cc := e ▸ h
theorem LS.only {T : Nat} (h : LS w wr g m0 R X st k q F E A cc) (ho : Only T wr w') (h1 : m0 ≠ T) (h2 : ¬ F T) (h3 : w.heap.size ≤ T) : LS w w' g m0 R X st k q F E A cc :=
  ⟨ho.blk h.mb h1, h.rf.only ho h2, h.by_.only ho (by have := h.gw; omega), h.bel.trans (ho.below h.bel.size h3), h.hE, h.fm, h.fB, h.gw, h.mw⟩
theorem six_set {w : World} {T : Nat} {t : TypeId} {a0 a1 a2 a3 a4 a5 v0 v1 v2 v3 v4 v5 : Value} (h : Blk w T t #[a0, a1, a2, a3, a4, a5]) :
    Blk ((((((w.setCell ⟨T, 0, none⟩ v0).setCell ⟨T, 1, none⟩ v1).setCell ⟨T, 2, none⟩ v2).setCell ⟨T, 3, none⟩ v3).setCell ⟨T, 4, none⟩ v4).setCell ⟨T, 5, none⟩ v5) T t #[v0, v1, v2, v3, v4, v5] ∧ Only T w ((((((w.setCell ⟨T, 0, none⟩ v0).setCell ⟨T, 1, none⟩ v1).setCell ⟨T, 2, none⟩ v2).setCell ⟨T, 3, none⟩ v3).setCell ⟨T, 4, none⟩ v4).setCell ⟨T, 5, none⟩ v5) :=
  ⟨Blk.set_ (Blk.set_ (Blk.set_ (Blk.set_ (Blk.set_ (Blk.set_ h 0 v0) 1 v1) 2 v2) 3 v3) 4 v4) 5 v5, (((((((Only.refl T w).set_ 0 v0).set_ 1 v1).set_ 2 v2).set_ 3 v3).set_ 4 v4).set_ 5 v5)⟩
theorem LS.more {F' : Nat → Prop} (h : LS w wr g m0 R X st k q F E A cc) (hF : ∀ g, F g → F' g) (hl : ∀ g, F' g → g < wr.heap.size) (hm : ¬ F' m0) (hB : ∀ h, F' h → w.heap.size ≤ h) : LS w wr g m0 R X st k q F' E A cc :=
  ⟨h.mb, h.rf.more hF hl, h.by_, h.bel, h.hE, hm, hB, h.gw, h.mw⟩
theorem LS.grow (h : LS w wr g m0 R X st k q F E A cc) {A' : Option Addr} {c' : Nat} {e : Ent} (he : ∀ (v : Ver) (f : Nat) (u : Value), e = (some (v, f), u) → OwnB wr 0 u v.d.length (u8s v.d) ∧ ∀ g, u.ownBlock = some g → F g)
    (hown : w'.ownsRow 0 122 8 (.slice A' (E.length + 1) c') (E.length + 1) (ents E ++ ents [e])) (hk : Kin wr w' (.slice A E.length cc) (.slice A' (E.length + 1) c')) (hm : (Lx X)[k]? = some e.1) :
    LS w (w'.setCell ⟨R, 0, none⟩ (.slice A' (E.length + 1) c')) g m0 R X st (k + 1) q (fun g => F g ∨ (wr.heap.size ≤ g ∧ g < w'.heap.size)) (E ++ [e]) A' c' := by
  have ho : Only R w' (w'.setCell ⟨R, 0, none⟩ (.slice A' (E.length + 1) c')) := (Only.refl R w').set_ _ _
  have hmR : m0 ≠ R := fun e => h.fm (e ▸ h.rf.fr)
  have hRw : w.heap.size ≤ R := h.fB R h.rf.fr
  have hgw := h.gw
  have hAb : ∀ x, (Value.slice A E.length cc).ownBlock = some x → F x := h.rf.fown
  have hmlt := Blk.lt h.mb
  have hsz := hk.1.size
  refine ⟨?_, h.rf.growD he hown hk, ?_, ?_, ?_, ?_, ?_, h.gw, h.mw⟩
  · exact ((ho.block m0 (Nat.lt_of_lt_of_le hmlt hsz) hmR).trans (hk.1.block m0 hmlt (fun e => h.fm (hAb m0 e.symm)))).trans h.mb
  · refine By.only (P := R) ⟨Nat.lt_of_lt_of_le h.by_.lt hsz, fun j y hy => ?_⟩ ho (by omega)
    rw [← h.by_.at_ j y hy]
    unfold World.cell?
    rw [hk.1.block g h.by_.lt (fun e => by have := h.fB g (hAb g e.symm); omega)]
  · exact (h.bel.trans (hk.below (B := w.heap.size) h.bel.size (fun x hx => h.fB x (hAb x hx)))).trans (ho.below (Nat.le_trans h.bel.size hsz) hRw)
  · rw [List.map_append, h.hE, take_succ_of hm]
    rfl
  · rintro (hh | hh)
    · exact h.fm hh
    · omega
  · rintro x (hh | hh)
    · exact h.fB x hh
    · have := h.bel.size; omega
end
theorem copy_by {w0 : World} {g : Nat} {X : List UInt8} (h : By w0 g X) {a m k : Nat} (ha : a + m ≤ X.length) (hk : m ≤ k) (hkm : k ≤ maxLen) (hm : m ≤ 1000000) :
    Calls Try.prog 30 #[.slice (some ⟨g, a, none⟩) m k] w0 fun e w' => ∃ v, e = .returned v ∧ OwnB w' w0.heap.size v m (u8s (sub X a m)) ∧ Below w0.heap.size w0 w' ∧ By w' g X := by
  refine (copy_any (sub X a m) _ m k w0 (h.sl ha hk hkm) hm).mono ?_
  rintro e w' ⟨v, h1, h2, h3⟩
  exact ⟨v, h1, h2, h3, h.on h3⟩
theorem copy_none {w0 : World} {g : Nat} {X : List UInt8} (h : By w0 g X) (a b : Nat) (hb : b ≤ X.length) :
    Calls Try.prog 30 #[.slice (some ⟨g, a, none⟩) 0 0] w0 fun e w' => ∃ v, e = .returned v ∧ OwnB w' w0.heap.size v 0 (u8s (sub X b 0)) ∧ Below w0.heap.size w0 w' ∧ By w' g X := by
  refine (copy_any (sub X b 0) _ 0 0 w0 ⟨by rw [u8s_len, sub_len (by omega)], Nat.le_refl _, Nat.zero_le _, (fun e => by cases e), fun h => absurd h (by omega)⟩ (by omega)).mono ?_
  rintro e w' ⟨v, h1, h2, h3⟩
  exact ⟨v, h1, h2, h3, h.on h3⟩
theorem reg_arith {X : List UInt8} {f z C c : Nat} {ya yb yc : UInt8} (hX : X.length = 512) (h30 : 30 ≤ z) (h5 : f + z ≤ 512) (hC : c - f = C) (hc : 512 ≤ c) (hya : X[f + 7]? = some ya) (hyb : X[f + 15]? = some yb) (hyc : X[f + 23]? = some yc) :
    (IntKind.u64.wrap (ya.toNat : Int) = ya.toNat ∧ IntKind.u64.wrap (yb.toNat : Int) = yb.toNat ∧ IntKind.u64.wrap (yc.toNat : Int) = yc.toNat) ∧
    (IntKind.u64.wrap ((ya.toNat : Int) * 72057594037927936) = ya.toNat * 72057594037927936 ∧ IntKind.u64.wrap ((yb.toNat : Int) * 72057594037927936) = yb.toNat * 72057594037927936 ∧ IntKind.u64.wrap ((yc.toNat : Int) * 72057594037927936) = yc.toNat * 72057594037927936) ∧
    (IntKind.u64.wrap ((getN X f 7 : Nat) : Int) = (getN X f 7 : Nat) ∧ IntKind.u64.wrap ((getN X (f + 8) 7 : Nat) : Int) = (getN X (f + 8) 7 : Nat) ∧ IntKind.u64.wrap ((getN X (f + 16) 7 : Nat) : Int) = (getN X (f + 16) 7 : Nat)) ∧
    (IntKind.u64.wrap (((getN X f 7 : Nat) : Int) + ya.toNat * 72057594037927936) = (getN X f 8 : Nat) ∧ IntKind.u64.wrap (((getN X (f + 8) 7 : Nat) : Int) + yb.toNat * 72057594037927936) = (getN X (f + 8) 8 : Nat) ∧ IntKind.u64.wrap (((getN X (f + 16) 7 : Nat) : Int) + yc.toNat * 72057594037927936) = (getN X (f + 16) 8 : Nat)) ∧
    (IntKind.i64.wrap (((getN X (f + 24) 4 : Nat) : Int) - 1) = ((getN X (f + 24) 4 : Nat) : Int) - 1 ∧ IntKind.i64.wrap (((getN X (f + 28) 2 : Nat) : Int) - 1) = ((getN X (f + 28) 2 : Nat) : Int) - 1) := by
  have ga := getN_eight hya
  have gb := getN_eight (a := f + 8) (y := yb) (by rw [show f + 8 + 7 = f + 15 by omega]; exact hyb)
  have gc := getN_eight (a := f + 16) (y := yc) (by rw [show f + 16 + 7 = f + 23 by omega]; exact hyc)
  have la : ya.toNat < 256 := ya.toNat_lt
  have lb : yb.toNat < 256 := yb.toNat_lt
  have lc : yc.toNat < 256 := yc.toNat_lt
  have l7 := getN_lt X f 7
  have l8 := getN_lt X (f + 8) 7
  have l9 := getN_lt X (f + 16) 7
  have l4 := getN_lt X (f + 24) 4
  have l2 := getN_lt X (f + 28) 2
  simp only [IntKind.wrap_u64, IntKind.wrap_i64]
  refine ⟨⟨?_, ?_, ?_⟩, ⟨?_, ?_, ?_⟩, ⟨?_, ?_, ?_⟩, ⟨?_, ?_, ?_⟩, ?_, ?_⟩ <;> omega
theorem reg_bounds {f z C c : Nat} (h30 : 30 ≤ z) (h5 : f + z ≤ 512) (hC : c - f = C) (hc : 512 ≤ c) :
    ((7 : Int) ≤ C ∧ (8 : Int) ≤ C ∧ (15 : Int) ≤ C ∧ (16 : Int) ≤ C ∧ (23 : Int) ≤ C ∧ (24 : Int) ≤ C ∧ (28 : Int) ≤ C ∧ (30 : Int) ≤ C) ∧ ((30 : Int) ≤ z ∧ (z : Int) ≤ C ∧ (7 : Int) < z ∧ (15 : Int) < z ∧ (23 : Int) < z) ∧ (¬ C = 8 ∧ ¬ C = 16 ∧ ¬ C = 24 ∧ ¬ C = 28) ∧ f + C = c := by omega
theorem by_three {w : World} {g f : Nat} {X : List UInt8} {ya yb yc : UInt8} (h : By w g X) (hya : X[f + 7]? = some ya) (hyb : X[f + 15]? = some yb) (hyc : X[f + 23]? = some yc) :
    w.cell? ⟨g, f + 7, none⟩ = some (.int .u8 (ya.toNat : Int)) ∧ w.cell? ⟨g, f + 15, none⟩ = some (.int .u8 (yb.toNat : Int)) ∧ w.cell? ⟨g, f + 23, none⟩ = some (.int .u8 (yc.toNat : Int)) := ⟨h.at_ _ _ hya, h.at_ _ _ hyb, h.at_ _ _ hyc⟩
section
variable {w wr w8 : World} {g m0 R : Nat} {X : List UInt8} {st k : Nat} {q : Nat → Bool} {F : Nat → Prop} {E : List Ent} {A : Option Addr} {cc : Nat}
theorem LS.fin1 (h : LS w wr g m0 R X st k q F E A cc) {A8 : Option Addr} {c8 n8 : Nat} {d : List UInt8} (BX : Option Addr → Nat → Array Value) (ho : OwnB w8 wr.drew.heap.size (.slice A8 n8 c8) n8 (u8s d)) (hb : Below wr.drew.heap.size wr.drew w8) :
    ∃ T Ad cd, (Value.pointer (some ⟨w8.heap.size, 0, none⟩)) = .pointer (some ⟨T, 0, none⟩) ∧ LS w (w8.alloc (.cells (BX A8 c8) 33)) g m0 R X st k q F E A cc ∧ Blk (w8.alloc (.cells (BX A8 c8) 33)) T 33 (BX Ad cd) ∧ OwnB (w8.alloc (.cells (BX A8 c8) 33)) wr.heap.size (.slice Ad n8 cd) n8 (u8s d) :=
  ⟨_, A8, c8, rfl, (h.drew.below hb).below (bel_alloc _ _), Blk.new _ _ _, own_keep ho fun k hk => (bel_alloc w8 _).block k (ho.lt k hk).2⟩
theorem LS.fin2 (h : LS w wr g m0 R X st k q F E A cc) {A8 : Option Addr} {c8 n8 : Nat} {d : List UInt8} {a0 a1 a2 a3 a4 a5 v0 v1 v2 v3 v4 : Value}
    (ho : OwnB w8 (wr.alloc (.cells #[a0, a1, a2, a3, a4, a5] 33)).drew.heap.size (.slice A8 n8 c8) n8 (u8s d)) (hb : Below (wr.alloc (.cells #[a0, a1, a2, a3, a4, a5] 33)).drew.heap.size (wr.alloc (.cells #[a0, a1, a2, a3, a4, a5] 33)).drew w8) :
    ∃ T Ad cd, (Value.pointer (some ⟨wr.heap.size, 0, none⟩)) = .pointer (some ⟨T, 0, none⟩) ∧ LS w ((((((w8.setCell ⟨wr.heap.size, 0, none⟩ v0).setCell ⟨wr.heap.size, 1, none⟩ v1).setCell ⟨wr.heap.size, 2, none⟩ v2).setCell ⟨wr.heap.size, 3, none⟩ v3).setCell ⟨wr.heap.size, 4, none⟩ v4).setCell ⟨wr.heap.size, 5, none⟩ (.slice A8 n8 c8)) g m0 R X st k q F E A cc ∧ Blk ((((((w8.setCell ⟨wr.heap.size, 0, none⟩ v0).setCell ⟨wr.heap.size, 1, none⟩ v1).setCell ⟨wr.heap.size, 2, none⟩ v2).setCell ⟨wr.heap.size, 3, none⟩ v3).setCell ⟨wr.heap.size, 4, none⟩ v4).setCell ⟨wr.heap.size, 5, none⟩ (.slice A8 n8 c8)) T 33 #[v0, v1, v2, v3, v4, .slice Ad n8 cd] ∧ OwnB ((((((w8.setCell ⟨wr.heap.size, 0, none⟩ v0).setCell ⟨wr.heap.size, 1, none⟩ v1).setCell ⟨wr.heap.size, 2, none⟩ v2).setCell ⟨wr.heap.size, 3, none⟩ v3).setCell ⟨wr.heap.size, 4, none⟩ v4).setCell ⟨wr.heap.size, 5, none⟩ (.slice A8 n8 c8)) wr.heap.size (.slice Ad n8 cd) n8 (u8s d) := by
  obtain ⟨WZ, hWZ⟩ : ∃ WZ, wr.alloc (.cells #[a0, a1, a2, a3, a4, a5] 33) = WZ := ⟨_, rfl⟩
  have hz : LS w WZ g m0 R X st k q F E A cc := by rw [← hWZ]; exact h.below (bel_alloc _ _)
  have ht : Blk WZ wr.heap.size 33 #[a0, a1, a2, a3, a4, a5] := by rw [← hWZ]; exact Blk.new _ _ _
  rw [hWZ] at ho hb
  have hlt := Blk.lt ht
  have hb1 : Blk w8 wr.heap.size 33 #[a0, a1, a2, a3, a4, a5] := Blk.below (show Blk WZ.drew _ _ _ from ht) hb hlt
  have h8 : LS w w8 g m0 R X st k q F E A cc := hz.drew.below hb
  obtain ⟨s1, s2⟩ := six_set (v0 := v0) (v1 := v1) (v2 := v2) (v3 := v3) (v4 := v4) (v5 := .slice A8 n8 c8) hb1
  have hml := Blk.lt h.mb
  refine ⟨_, A8, c8, rfl, h8.only s2 (by omega) (fun hf => by have := h.rf.lt _ hf; omega) h.bel.size, s1, own_mono (own_keep ho fun k hk => s2.block k (ho.lt k hk).2 (fun e => ?_)) (Nat.le_of_lt hlt)⟩
  have h9 : WZ.heap.size ≤ k := (ho.lt k hk).1
  omega
theorem zb {wr w' : World} {a0 a1 a2 a3 a4 a5 : Value} (hb : Below (wr.alloc (.cells #[a0, a1, a2, a3, a4, a5] 33)).drew.heap.size (wr.alloc (.cells #[a0, a1, a2, a3, a4, a5] 33)).drew w') : Blk w' wr.heap.size 33 #[a0, a1, a2, a3, a4, a5] := by
  have ht : Blk (wr.alloc (.cells #[a0, a1, a2, a3, a4, a5] 33)) wr.heap.size 33 #[a0, a1, a2, a3, a4, a5] := Blk.new _ _ _
  exact Blk.below (show Blk (wr.alloc (.cells #[a0, a1, a2, a3, a4, a5] 33)).drew _ _ _ from ht) hb (Blk.lt ht)
end
theorem cpy {w0 : World} {g : Nat} {X d : List UInt8} {F : Nat} {a : Array Value} {m : Nat} (h : By w0 g X) (hc : Calls Try.prog F a w0 fun e w' => ∃ v, e = .returned v ∧ OwnB w' w0.heap.size v m (u8s d) ∧ Below w0.heap.size w0 w') :
    Calls Try.prog F a w0 fun e w' => ∃ v, e = .returned v ∧ OwnB w' w0.heap.size v m (u8s d) ∧ Below w0.heap.size w0 w' ∧ By w' g X :=
  hc.mono fun e w' ⟨v, h1, h2, h3⟩ => ⟨v, h1, h2, h3, h.on h3⟩
theorem rs_join {X : List UInt8} (h1 : 4 + 4 * slN X ≤ bgN X) (h2 : bgN X ≤ 512) (h3 : slN X = 0 ∨ Mem.frB X (slN X - 1) = false) : rsB X = true := by
  unfold rsB
  rw [Bool.and_eq_true, Bool.and_eq_true, Bool.or_eq_true, decide_eq_true_eq, decide_eq_true_eq, beq_iff_eq, Bool.not_eq_true']
  exact ⟨h1, h2, h3⟩
theorem rload_any (X : List UInt8) (g c : Nat) (w : World) (hb : By w g X) (hX : X.length = 512) (hc : 512 ≤ c) (hcm : c ≤ maxLen) :
    Calls Try.prog 32 #[.slice (some ⟨g, 0, none⟩) 512 c] w fun e w' => LoadTo w X e w' := by
  have HBY := Lib.hid hb
  have HXL := Lib.hid hX
  have HCM := Lib.hid hcm
  have k1 : (2 : Int) ≤ c := by omega
  have k2 : (4 : Int) ≤ c := by omega
  have j1 : ¬ c = 2 := by omega
  have hn := get2_lt X 0
  have hs := get2_lt X 2
  obtain ⟨n, hnn⟩ : ∃ n, slN X = n := ⟨_, rfl⟩
  obtain ⟨st, hst⟩ : ∃ st, bgN X = st := ⟨_, rfl⟩
  have HNN := Lib.hid hnn
  have HST := Lib.hid hst
  rw [show get2 X 0 = n from hnn] at hn
  rw [show get2 X 2 = st from hst] at hs
  have hnI : (n : Int) < 65536 := by omega
  have hsI : (st : Int) < 65536 := by omega
  have hgn : getN X 0 2 = n := hnn
  have hgs : getN X 2 2 = st := hst
  have HGN := Lib.hid hgn
  have HGS := Lib.hid hgs
  have HGW := Lib.hid hb.lt
  clear hb hX hcm hnn hst hn hs hgn hgs
  go_enter Try.func32, Try.ntmps32
  go_wp2_with fail
  go_region_held3 (fun _ => True) (first | go_keep | exact trivial)
    (first | (go_at_call 76; refine (rg HBY.out.drew (by rw [HXL.out]; omega) (by omega) (by omega) (Nat.le_trans (show _ ≤ c by omega) HCM.out)).mono ?_; rintro e w2 ⟨rfl, rfl⟩))
  rw [HGN.out, HGS.out]
  obtain ⟨w1, hw1⟩ : ∃ w1, w.drew = w1 := ⟨_, rfl⟩
  have HBY1 : Hid (By w1 g X) := Lib.hid (by rw [← hw1]; exact HBY.out.drew)
  have HB1 : Hid (Below w.heap.size w w1) := Lib.hid (by rw [← hw1]; exact ⟨rfl, rfl, rfl, Nat.le_refl _, fun _ _ => rfl⟩)
  rw [hw1]
  clear k1 k2 j1 hw1 HBY HGN HGS
  by_cases h1 : st ≤ 512
  · by_cases h2 : 4 + 4 * n ≤ st
    · have h1' : ¬ (512 : Int) < st := by omega
      have h2' : ¬ (st : Int) < 4 + 4 * n := by omega
      obtain ⟨R, hR⟩ : ∃ R, w1.heap.size = R := ⟨_, rfl⟩
      obtain ⟨W2, hW2⟩ : ∃ W2, w1.alloc (.cells #[.slice none 0 0, .int .i64 st] 45) = W2 := ⟨_, rfl⟩
      obtain ⟨m0, hm0⟩ : ∃ m0, W2.heap.size = m0 := ⟨_, rfl⟩
      obtain ⟨W3, hW3⟩ : ∃ W3, W2.alloc (.cells ((List.range 512).map fun _ => Value.bool false).toArray 4) = W3 := ⟨_, rfl⟩
      have hmk := make_bool W2
      rw [hm0, hW3] at hmk
      have HM3 : Hid (MB W3 m0 4 (fun i => decide (i < 0))) := Lib.hid (by
        have e : (fun i => decide (i < 0)) = (fun _ : Nat => false) := by funext i; simp
        rw [e, ← hW3, ← hm0]
        exact Blk.new W2 _ _)
      have HB2 : Hid (Below R w1 W2) := Lib.hid (by rw [← hW2, ← hR]; exact bel_alloc _ _)
      have HB3 : Hid (Below w1.heap.size w1 W3) := Lib.hid (by rw [← hW3]; exact bel_trans (by rw [hR]; exact HB2.out) (bel_alloc _ _))
      have HRF2 : RfA W2 (fun g => g = R) R [] st none 0 := by
        rw [← hW2, ← hR]
        exact ⟨Blk.new w1 _ _, rfl, World.ownsRow_nil _ _ _ _, fun g hg => by simp [Value.ownBlock] at hg, fun i v f u hu => by simp at hu, fun g hg => by subst hg; rw [size_alloc]; omega⟩
      have HRF3 : Hid (RfA W3 (fun g => g = R) R [] st none 0) := Lib.hid (by rw [← hW3]; exact HRF2.below (bel_alloc _ _))
      have HRm : Hid (R < m0 ∧ w.heap.size ≤ R) := Lib.hid (⟨by rw [← hm0, ← hW2, size_alloc, hR]; omega, by rw [← hR]; exact HB1.out.size⟩)
      have HBY3 := Lib.hid (HBY1.out.on HB3.out)
      have HBe3 : Hid (Below w.heap.size w W3) := Lib.hid (bel_trans HB1.out HB3.out)
      rw [← hW2] at hmk
      have HW2 := Lib.hid hW2
      have HR := Lib.hid hR
      clear hnI hsI HRF2 hm0 hW3 hW2 hR HB2 HB3 HBY1 HB1
      go_wp2_with fail
      have HL0 : Hid (LS w W3 g m0 R X st 0 (fun i => decide (i < 0)) (fun h => h = R) [] none 0) := Lib.hid ⟨HM3.out, HRF3.out, HBY3.out, HBe3.out, rfl, (fun h => by have := HRm.out; omega), (fun h hh => by have := HRm.out; omega), HGW.out, by have := HRm.out; omega⟩
      have htI : (st : Int) ≤ 512 := by omega
      have hnI : (n : Int) ≤ 127 := by omega
      clear HM3 HRF3 HBY3 HBe3
      rw [HR.out]
      go_loopw [41] (fun i wr => ∃ j : Nat, j ≤ 4 + 4 * n ∧ i = .int .i64 j ∧ LS w wr g m0 R X st 0 (fun i => decide (i < j)) (fun h => h = R) [] none 0) (fun i _ => 4 + 4 * n - (intOf i).toNat)
      case atStart => exact ⟨0, by omega, rfl, HL0.out⟩
      case round =>
        obtain ⟨j, hj, rfl, hl⟩ := hrel
        have HL := Lib.hid hl
        clear hl HL0
        by_cases hlt : j < 4 + 4 * n
        · have hlt' : (j : Int) < 4 + 4 * n := by omega
          have hj0 : (j : Int) < 512 := by omega
          have f0 := Blk.frozen HL.out.mb j
          have x0 := HL.out.mb.cell (i := j) (by omega)
          go_wp2_with fail
          go_roundw
          case rel =>
            refine ⟨j + 1, by omega, by go_num, (HL.out.put j).turn ?_⟩
            funext i
            rw [Bool.eq_iff_iff]
            simp
            omega
          case measure => simp [intOf]; omega
        · have hje : j = 4 + 4 * n := by omega
          have hnl : ¬ (j : Int) < 4 + 4 * n := by omega
          have HLn : Hid (LS w wr g m0 R X st 0 (fun i => decide (i < 4 + 4 * n) || mkf (Lx X) 0 i) (fun h => h = R) [] none 0) := Lib.hid (HL.out.turn (by rw [hje]; funext i; exact (Bool.or_false _).symm))
          clear HL hlt hj hje
          go_wp2_with fail
          clear hnl
          go_loopw [49] (fun i wr => ∃ (k : Nat) (F : Nat → Prop) (E : List Ent) (A : Option Addr) (cc : Nat), k ≤ n ∧ i = .int .i64 k ∧ (∀ s, s < k → okS X s) ∧ LS w wr g m0 R X st k (fun i => decide (i < 4 + 4 * n) || mkf (Lx X) k i) F E A cc) (fun i _ => n - (intOf i).toNat)
          case atStart => exact ⟨0, _, _, _, _, by omega, rfl, fun s hs => absurd hs (by omega), HLn.out⟩
          case round =>
            obtain ⟨k, F, E, A, cc, hk, rfl, hoks, hl⟩ := hrel
            have HL := Lib.hid hl
            have HOK := Lib.hid hoks
            clear hl hoks HLn
            by_cases hlt : k < n
            · have hlt' : (k : Int) < n := by omega
              have hk0 : (0 : Int) ≤ k := by omega
              obtain ⟨pa, hpa⟩ : ∃ pa, 4 + 4 * k = pa := ⟨_, rfl⟩
              obtain ⟨pb, hpb⟩ : ∃ pb, 6 + 4 * k = pb := ⟨_, rfl⟩
              obtain ⟨pd, hpd⟩ : ∃ pd, 8 + 4 * k = pd := ⟨_, rfl⟩
              have HPA := Lib.hid hpa
              have HPB := Lib.hid hpb
              have HPD := Lib.hid hpd
              have e1 : IntKind.i64.wrap (4 * (k : Int)) = 4 * k := by rw [IntKind.wrap_i64]; omega
              have e2 : IntKind.i64.wrap (4 + 4 * (k : Int)) = pa := by rw [IntKind.wrap_i64]; omega
              have e3 : IntKind.i64.wrap (6 + 4 * (k : Int)) = pb := by rw [IntKind.wrap_i64]; omega
              have e4 : IntKind.i64.wrap (8 + 4 * (k : Int)) = pd := by rw [IntKind.wrap_i64]; omega
              have b1 : (pa : Int) ≤ pb := by omega
              have b2 : (pb : Int) ≤ pd := by omega
              have b3 : (pb : Int) ≤ c := by omega
              have b4 : (pd : Int) ≤ c := by omega
              have b5 : pb - pa = 2 := by omega
              have b6 : pd - pb = 2 := by omega
              have b7 : ¬ c = pa := by omega
              have b8 : ¬ c = pb := by omega
              have c1 : (0 : Int) ≤ pa := by omega
              have c2 : (0 : Int) ≤ pb := by omega
              have HPC : Hid (pa + 2 ≤ 512 ∧ pb + 2 ≤ 512 ∧ 2 ≤ c - pa ∧ 2 ≤ c - pb) := Lib.hid (by omega)
              clear hpa hpb hpd
              go_wp2_with fail
              go_region_held3 (fun _ => True) (first | go_keep | exact trivial)
                (first | (go_at_call 76; refine (rg HL.out.drew.by_ (by have := HXL.out; have := HPC.out; omega) (by omega) (by have := HPC.out; omega) (Nat.le_trans (show _ ≤ c by omega) HCM.out)).mono ?_; rintro e w2 ⟨rfl, rfl⟩))
              obtain ⟨wl, hwl⟩ : ∃ wl, wr.drew = wl := ⟨_, rfl⟩
              have HL2 : Hid (LS w wl g m0 R X st k (fun i => decide (i < 4 + 4 * n) || mkf (Lx X) k i) F E A cc) := Lib.hid (by rw [← hwl]; exact HL.out.drew)
              rw [hwl]
              obtain ⟨f, hf⟩ : ∃ f, getN X pa 2 = f := ⟨_, rfl⟩
              obtain ⟨z, hz⟩ : ∃ z, getN X pb 2 = z := ⟨_, rfl⟩
              have HFZ : Hid (frS X k = f ∧ szS X k = z) := Lib.hid (⟨by rw [← hf, ← HPA.out]; rfl, by rw [← hz, ← HPB.out]; rfl⟩)
              have HFRB : Hid (Mem.frB X k = (f == 0 && z == 0)) := Lib.hid (by show (frS X k == 0 && szS X k == 0) = _; rw [HFZ.out.1, HFZ.out.2])
              have hfl : (f : Int) < 65536 := by have : f < 65536 := by { rw [← hf]; exact get2_lt X pa }; omega
              have hzl : (z : Int) < 65536 := by have : z < 65536 := by { rw [← hz]; exact get2_lt X pb }; omega
              have HLG : Hid ((Lx X)[k]? = some (slotAt X k)) := Lib.hid (Lx_get (by rw [HNN.out]; exact hlt))
              have HOKs : Hid (okS X k → ∀ s, s < k + 1 → okS X s) := Lib.hid (fun h s hs => by
                by_cases e : s = k
                · rw [e]; exact h
                · exact HOK.out s (by omega))
              have HEb : Hid (E.length = k) := Lib.hid (by
                have h1 : (E.map Prod.fst).length = ((Lx X).take k).length := by rw [HL2.out.hE]
                rw [List.length_map, List.length_take, Lx_len, HNN.out] at h1
                omega)
              have HBAD : Hid (¬ okS X k → ¬ LoadOk X) := Lib.hid (fun h hl => h (hl.sl k (by rw [HNN.out]; exact hlt)))
              rw [hf, hz]
              clear hf hz HL HPA HPB HPD HPC e1 e2 e3 e4 b1 b2 b3 b4 b5 b6 b7 b8 c1 c2 hwl
              by_cases hfr : f = 0 ∧ z = 0
              · have HF : Hid (Mem.frB X k = true) := Lib.hid (by rw [HFRB.out, hfr.1, hfr.2]; rfl)
                have q1 : ((f : Int) == 0) = true := by rw [beq_iff_eq]; omega
                have q2 : ((z : Int) == 0) = true := by rw [beq_iff_eq]; omega
                have hEb : E.length ≤ 127 := by have := HEb.out; omega
                have x0 := HL2.out.rf.blk.cell 0
                have x1 := HL2.out.rf.blk.cell 1
                clear hfr hfl hzl
                go_upto_region 32 with (at_builtin; go_loud (refine wpl_app_slot rfl (.tmp 80) (.tmp 82) rfl 0 _ E.length (ents E) rfl (World.ownsRow.alloc HL2.out.rf.own _) _ _ 1 (ents [e0]) rfl (lies_at _ zSlot _ 8 1 wl.heap.size rfl rfl) e0_one (by omega) (Nat.zero_le _) ?_; intro v1 w7 hown1 hg1; obtain ⟨A1, c1, hv1, _⟩ := Sl.of_own hown1; subst hv1; have hb1 : Blk w7 R 45 #[.slice A E.length cc, .int .i64 st] := (hg1.1.block R (Blk.lt (Blk.alloc HL2.out.rf.blk _)) (own_blk_ne HL2.out.rf.own HL2.out.rf.blk (by decide)).symm).trans (Blk.alloc HL2.out.rf.blk _); have hc0 := hb1.cell 0; have hf0 := hb1.frozen 0))
                have HG := Lib.hid ((HL2.out.below (bel_alloc _ (.cells zSlot 122))).grow (e := e0) (fun v f u hh => by cases congrArg Prod.fst hh) hown1 hg1 (by rw [HLG.out, slotAt_free HF.out]; rfl))
                obtain ⟨w9, hw9⟩ : ∃ w9, w7.setCell ⟨R, 0, none⟩ (.slice A1 (E.length + 1) c1) = w9 := ⟨_, rfl⟩
                rw [hw9] at HG ⊢
                clear hw9 hb1 hc0 hf0 hg1 hown1 x0 x1 q1 q2
                go_wp2_with fail
                go_roundw
                case rel => exact ⟨k + 1, _, _, _, _, by omega, by go_num, HOKs.out (.inl HF.out), HG.out.turn (by rw [mkf_none (by rw [HLG.out, slotAt_free HF.out])])⟩
                case measure => simp [intOf]; omega
              · have HF : Hid (Mem.frB X k = false) := Lib.hid (by
                  rw [HFRB.out, Bool.eq_false_iff]
                  intro h
                  rw [Bool.and_eq_true, beq_iff_eq, beq_iff_eq] at h
                  exact hfr h)
                have HDIS : Hid (f ≠ 0 ∨ z ≠ 0) := Lib.hid (by omega)
                clear hfr
                go_upto_region 17 with fail
                go_cut [75] from 50 to 178 (fun t wx => t = .bool false ∧ wx = wl)
                case first =>
                  rcases Nat.eq_zero_or_pos f with e0 | e0
                  · have q1 : ((f : Int) == 0) = true := by rw [beq_iff_eq]; omega
                    have q2 : ((z : Int) == 0) = false := by have := HDIS.out; rw [beq_eq_false_iff_ne]; omega
                    clear hfl hzl e0
                    go_wp2_with fail
                    all_goals go_meet
                    all_goals exact ⟨rfl, rfl⟩
                  · have q1 : ((f : Int) == 0) = false := by rw [beq_eq_false_iff_ne]; omega
                    clear hfl hzl e0
                    go_wp2_with fail
                    all_goals go_meet
                    all_goals exact ⟨rfl, rfl⟩
                case rest =>
                  obtain ⟨rfl, hwc⟩ := hcut
                  rw [hwc]
                  clear hwc HDIS
                  have HNB : Hid ((okS X k → 30 ≤ z ∧ st ≤ f ∧ f + z ≤ 512 ∧ (∀ i, f ≤ i → i < f + z → mkf (Lx X) k i = false) ∧ tuOk (getN X f 8) (getN X (f + 8) 8) (getN X (f + 16) 8) ((getN X (f + 24) 4 : Nat) - 1) ((getN X (f + 28) 2 : Nat) - 1) (z - 30) = true)) := Lib.hid (fun h => by
                    rcases h with h | h
                    · rw [HF.out] at h; cases h
                    · rw [HFZ.out.1, HFZ.out.2, HST.out] at h
                      exact h)
                  by_cases h3 : 30 ≤ z
                  · by_cases h4 : st ≤ f
                    · by_cases h5 : f + z ≤ 512
                      · have g1 : ¬ (z : Int) < 30 := by omega
                        have g2 : ¬ (f : Int) < st := by omega
                        have g3 : ¬ (512 : Int) < (f : Int) + z := by omega
                        have HF2 := Lib.hid (And.intro h3 (And.intro h4 h5))
                        clear h3 h4 h5 hfl hzl
                        go_wp2_with fail
                        go_loopw [11] (fun i wr2 => ∃ j : Nat, f ≤ j ∧ j ≤ f + z ∧ i = .int .i64 j ∧ (∀ q, f ≤ q → q < j → mkf (Lx X) k q = false) ∧ LS w wr2 g m0 R X st k (fun i => (decide (i < 4 + 4 * n) || mkf (Lx X) k i) || (decide (f ≤ i) && decide (i < j))) F E A cc) (fun i _ => f + z - (intOf i).toNat)
                        case atStart =>
                          refine ⟨f, by omega, by omega, rfl, fun q h1 h2 => absurd h2 (by omega), HL2.out.turn ?_⟩
                          funext i
                          have : (decide (f ≤ i) && decide (i < f)) = false := by
                            rw [Bool.eq_false_iff]
                            simp
                          rw [this, Bool.or_false]
                        case round =>
                          obtain ⟨j, hj1, hj2, rfl, hfrr, hlj⟩ := hrel
                          have HLJ := Lib.hid hlj
                          have HFR := Lib.hid hfrr
                          clear hlj hfrr g1 g2 g3 HL2
                          have g5 : (f : Int) + z ≤ 512 := by have := HF2.out; omega
                          by_cases hj : j < f + z
                          · have hj' : (j : Int) < (f : Int) + z := by omega
                            have hj5 : (j : Int) < 512 := by have := HF2.out; omega
                            have x0 := HLJ.out.mb.cell (i := j) (by have := HF2.out; omega)
                            have e0 : ((decide (j < 4 + 4 * n) || mkf (Lx X) k j) || (decide (f ≤ j) && decide (j < j))) = mkf (Lx X) k j := by
                              rw [decide_eq_false (show ¬ j < 4 + 4 * n by have := HF2.out; omega), decide_eq_false (show ¬ j < j by omega), Bool.and_false, Bool.or_false, Bool.false_or]
                            rw [e0] at x0
                            clear e0
                            cases hm : mkf (Lx X) k j with
                            | true =>
                              rw [hm] at x0
                              have HMJ := Lib.hid hm
                              clear hm
                              go_wp2_with fail
                              go_ret
                              exact .inr ⟨HBAD.out (fun ho => by have := (HNB.out ho).2.2.2.1 j hj1 hj; rw [HMJ.out] at this; cases this), rfl, HLJ.out.bel⟩
                            | false =>
                              rw [hm] at x0
                              have HMJ := Lib.hid hm
                              clear hm
                              have f0 := Blk.frozen HLJ.out.mb j
                              go_wp2_with fail
                              go_roundw
                              case rel =>
                                refine ⟨j + 1, by omega, by omega, by go_num, fun q h1 h2 => ?_, (HLJ.out.put j).turn ?_⟩
                                · by_cases e : q = j
                                  · rw [e]; exact HMJ.out
                                  · exact HFR.out q h1 (by omega)
                                · funext i
                                  rw [Bool.eq_iff_iff]
                                  simp only [Bool.or_eq_true, Bool.and_eq_true, decide_eq_true_eq, beq_iff_eq]
                                  constructor
                                  · rintro ((h | h) | h)
                                    · exact .inl h
                                    · exact .inr ⟨h.1, by omega⟩
                                    · exact .inr ⟨by omega, by omega⟩
                                  · rintro (h | h)
                                    · exact .inl (.inl h)
                                    · by_cases e : i = j
                                      · exact .inr e
                                      · exact .inl (.inr ⟨h.1, by omega⟩)
                              case measure => simp [intOf]; omega
                          · have hje : j = f + z := by omega
                            have hnl : ¬ (j : Int) < (f : Int) + z := by omega
                            have HQ : Hid (LS w wr g m0 R X st k (fun i => decide (i < 4 + 4 * n) || mkf (Lx X) (k + 1) i) F E A cc) := Lib.hid (HLJ.out.turn (by
                              funext i
                              have hg := HLG.out
                              rw [slotAt_some HF.out, HFZ.out.1, HFZ.out.2] at hg
                              rw [mkf_some hg, verAt_sz (by rw [HXL.out]; exact HF2.out.2.2) HF2.out.1, hje, Bool.or_assoc]))
                            have HFRR : Hid (∀ i, f ≤ i → i < f + z → mkf (Lx X) k i = false) := Lib.hid (by rw [← hje]; exact HFR.out)
                            clear hj hje hj1 hj2 HLJ HFR
                            have v1 : (0 : Int) ≤ f := by omega
                            have v2 : (f : Int) + z ≤ c := by omega
                            have v7 : (f : Int) ≤ (f : Int) + z := by omega
                            have v3 : ¬ c = f := by have := HF2.out; omega
                            have v4 : (0 : Int) ≤ z := by omega
                            have v5 : (z : Int) ≤ 512 := by have := HF2.out; omega
                            have v6 : (f : Int) ≤ 512 := by have := HF2.out; omega
                            go_upto_region 28 with fail
                            obtain ⟨C, hC⟩ : ∃ C, c - f = C := ⟨_, rfl⟩
                            rw [hC]
                            rw [Nat.add_sub_cancel_left]
                            obtain ⟨ya, hya⟩ : ∃ y, X[f + 7]? = some y := ⟨_, List.getElem?_eq_getElem (by have := HF2.out; rw [HXL.out]; omega)⟩
                            obtain ⟨yb', hyb⟩ : ∃ y, X[f + 15]? = some y := ⟨_, List.getElem?_eq_getElem (by have := HF2.out; rw [HXL.out]; omega)⟩
                            obtain ⟨yc, hyc⟩ : ∃ y, X[f + 23]? = some y := ⟨_, List.getElem?_eq_getElem (by have := HF2.out; rw [HXL.out]; omega)⟩
                            have hf2 := HF2.out
                            have G1 : Hid (∀ w0, By w0 g X → Calls Try.prog 76 #[.slice (some ⟨g, f, none⟩) 7 C] w0 fun e w' => e = .returned (.int .i64 (getN X (f) 7 : Nat)) ∧ w0 = w') := Lib.hid (fun w0 h0 => rg h0 (by rw [HXL.out]; omega) (by omega) (by omega) (Nat.le_trans (show C ≤ c by omega) HCM.out))
                            have G2 : Hid (∀ w0, By w0 g X → Calls Try.prog 76 #[.slice (some ⟨g, f + 8, none⟩) 7 (C - 8)] w0 fun e w' => e = .returned (.int .i64 (getN X (f + 8) 7 : Nat)) ∧ w0 = w') := Lib.hid (fun w0 h0 => rg h0 (by rw [HXL.out]; omega) (by omega) (by omega) (Nat.le_trans (show (C - 8) ≤ c by omega) HCM.out))
                            have G3 : Hid (∀ w0, By w0 g X → Calls Try.prog 76 #[.slice (some ⟨g, f + 16, none⟩) 7 (C - 16)] w0 fun e w' => e = .returned (.int .i64 (getN X (f + 16) 7 : Nat)) ∧ w0 = w') := Lib.hid (fun w0 h0 => rg h0 (by rw [HXL.out]; omega) (by omega) (by omega) (Nat.le_trans (show (C - 16) ≤ c by omega) HCM.out))
                            have G4 : Hid (∀ w0, By w0 g X → Calls Try.prog 76 #[.slice (some ⟨g, f + 24, none⟩) 4 (C - 24)] w0 fun e w' => e = .returned (.int .i64 (getN X (f + 24) 4 : Nat)) ∧ w0 = w') := Lib.hid (fun w0 h0 => rg h0 (by rw [HXL.out]; omega) (by omega) (by omega) (Nat.le_trans (show (C - 24) ≤ c by omega) HCM.out))
                            have G5 : Hid (∀ w0, By w0 g X → Calls Try.prog 76 #[.slice (some ⟨g, f + 28, none⟩) 2 (C - 28)] w0 fun e w' => e = .returned (.int .i64 (getN X (f + 28) 2 : Nat)) ∧ w0 = w') := Lib.hid (fun w0 h0 => rg h0 (by rw [HXL.out]; omega) (by omega) (by omega) (Nat.le_trans (show (C - 28) ≤ c by omega) HCM.out))
                            have CCP1 : Hid (C = 30 → ∀ w0, By w0 g X → Calls Try.prog 30 #[.slice (some ⟨g, f, none⟩) (z - 30) 0] w0 fun e w' => ∃ v, e = .returned v ∧ OwnB w' w0.heap.size v (z - 30) (u8s (sub X (f + 30) (z - 30))) ∧ Below w0.heap.size w0 w' ∧ By w' g X) := Lib.hid (fun h30 w0 hw0 => by
                              have hz30 : z = 30 := by omega
                              rw [hz30]
                              exact copy_none hw0 f (f + 30) (by rw [HXL.out]; omega))
                            have CCP2 : Hid (∀ w0, By w0 g X → Calls Try.prog 30 #[.slice (some ⟨g, f + 30, none⟩) (z - 30) (C - 30)] w0 fun e w' => ∃ v, e = .returned v ∧ OwnB w' w0.heap.size v (z - 30) (u8s (sub X (f + 30) (z - 30))) ∧ Below w0.heap.size w0 w' ∧ By w' g X) := Lib.hid (fun w0 hw0 => copy_by hw0 (by rw [HXL.out]; omega) (by omega) (Nat.le_trans (show C - 30 ≤ c by omega) HCM.out) (by omega))
                            have hgT : Hid (g ≠ wr.heap.size) := Lib.hid (by have := HQ.out.by_.lt; omega)
                            clear hf2
                            have HAR := reg_arith HXL.out HF2.out.1 HF2.out.2.2 hC hc hya hyb hyc
                            have HBD := reg_bounds HF2.out.1 HF2.out.2.2 hC hc
                            have KEEPH : Hid (∀ w', By w' g X → w'.cell? ⟨g, f + 7, none⟩ = some (.int .u8 (ya.toNat : Int)) ∧ w'.cell? ⟨g, f + 15, none⟩ = some (.int .u8 (yb'.toNat : Int)) ∧ w'.cell? ⟨g, f + 23, none⟩ = some (.int .u8 (yc.toNat : Int))) := Lib.hid (fun w' h => by_three h hya hyb hyc)
                            obtain ⟨x7, x15, x23⟩ := KEEPH.out _ HQ.out.by_
                            obtain ⟨na, hna⟩ : ∃ n, ya.toNat = n := ⟨_, rfl⟩
                            obtain ⟨nb', hnb⟩ : ∃ n, yb'.toNat = n := ⟨_, rfl⟩
                            obtain ⟨nc, hnc⟩ : ∃ n, yc.toNat = n := ⟨_, rfl⟩
                            rw [hna, hnb, hnc] at KEEPH HAR
                            rw [hna] at x7
                            rw [hnb] at x15
                            rw [hnc] at x23
                            obtain ⟨⟨p1, p2, p3⟩, ⟨p4, p5, p6⟩, ⟨p7, p8, p9⟩, ⟨pa, pb, pc⟩, pd, pe⟩ := HAR
                            obtain ⟨⟨k0, k1, k1', k2, k2', k3, k4, k5⟩, ⟨k6, k7, i1, i2, i3⟩, ⟨j1, j2, j3, j4⟩, hfc⟩ := HBD
                            have HFC := Lib.hid hfc
                            obtain ⟨BX, hBX⟩ : ∃ BX : Option Addr → Nat → Array Value, BX = fun A8 c8 => #[.int .u64 (getN X f 8 : Nat), .int .u64 (getN X (f + 8) 8 : Nat), .int .u64 (getN X (f + 16) 8 : Nat), .int .i64 ((getN X (f + 24) 4 : Nat) - 1), .int .i64 ((getN X (f + 28) 2 : Nat) - 1), .slice A8 (z - 30) c8] := ⟨_, rfl⟩
                            have HBX := Lib.hid hBX
                            clear hBX hya hyb hyc hna hnb hnc hC v1 v2 v3 v4 v5 v6 v7 hfc
                            go_cut [13] from 50 to 178 (fun t wx => ∃ T Ad cd, t = .pointer (some ⟨T, 0, none⟩) ∧ LS w wx g m0 R X st k (fun i => decide (i < 4 + 4 * n) || mkf (Lx X) (k + 1) i) F E A cc ∧ Blk wx T 33 (BX Ad cd) ∧ OwnB wx wr.heap.size (.slice Ad (z - 30) cd) (z - 30) (u8s (sub X (f + 30) (z - 30))))
                            case first =>
                              have HBYW := Lib.hid HQ.out.by_
                              clear x7 x15 x23
                              by_cases hc30 : C = 30
                              · have H30 := Lib.hid hc30
                                clear hc30
                                refine Reg.wp_region_inv_lit (by kernel_rfl) (by kernel_rfl) (fun D vals W => Reg.Fx (fun k9 => ([some (.slice (some ⟨g, f, none⟩) z C), some (.slice (some ⟨g, f, none⟩) 7 C), some (.int .i64 (getN X f 7 : Nat)), some (.int .u64 (getN X f 7 : Nat)), some (.slice (some ⟨g, f, none⟩) z C), some (.pointer (some ⟨g, f + 7, none⟩)), some (.int .u8 (na : Int)), some (.int .u64 (na : Int)), some (.int .u64 ((na : Int) * 72057594037927936)), some (.int .u64 (getN X f 8 : Nat)), some (.slice (some ⟨g, f, none⟩) z C), some (.slice (some ⟨g, f + 8, none⟩) 7 (C - 8)), some (.int .i64 (getN X (f + 8) 7 : Nat)), some (.int .u64 (getN X (f + 8) 7 : Nat)), some (.slice (some ⟨g, f, none⟩) z C), some (.pointer (some ⟨g, f + 15, none⟩)), some (.int .u8 (nb' : Int)), some (.int .u64 (nb' : Int)), some (.int .u64 ((nb' : Int) * 72057594037927936)), some (.int .u64 (getN X (f + 8) 8 : Nat)), some (.slice (some ⟨g, f, none⟩) z C), some (.slice (some ⟨g, f + 16, none⟩) 7 (C - 16)), some (.int .i64 (getN X (f + 16) 7 : Nat)), some (.int .u64 (getN X (f + 16) 7 : Nat)), some (.slice (some ⟨g, f, none⟩) z C), some (.pointer (some ⟨g, f + 23, none⟩)), some (.int .u8 (nc : Int)), some (.int .u64 (nc : Int)), some (.int .u64 ((nc : Int) * 72057594037927936)), some (.int .u64 (getN X (f + 16) 8 : Nat)), some (.slice (some ⟨g, f, none⟩) z C), some (.slice (some ⟨g, f + 24, none⟩) 4 (C - 24)), some (.int .i64 (getN X (f + 24) 4 : Nat)), some (.int .i64 ((getN X (f + 24) 4 : Nat) - 1)), some (.slice (some ⟨g, f, none⟩) z C), some (.slice (some ⟨g, f + 28, none⟩) 2 (C - 28)), some (.int .i64 (getN X (f + 28) 2 : Nat)), some (.int .i64 ((getN X (f + 28) 2 : Nat) - 1)), some (.agg #[.int .i64 ((getN X (f + 24) 4 : Nat) - 1), .int .i64 ((getN X (f + 28) 2 : Nat) - 1)]), some (.slice (some ⟨g, f, none⟩) z C), some (.slice (some ⟨g, f, none⟩) (z - 30) 0), none, none, none, none] : List (Option Value)).getD k9 none) D vals ∧ TM wr W (z - 30) (sub X (f + 30) (z - 30)) BX (D 41) (D 42) (D 43) (D 44) (vals 41) (vals 42) (vals 43)) ⟨Reg.Fx.init _ _, tm_new _ _ _ _ _ _ _⟩ (fun Q' => ?_) ?_
                                · refine Reg.Steps.cons (k' := 1) rfl ?_ ?_
                                  · intro D vals a W hR hd hde ev K' hK
                                    have x12 : a.tmps[12]? = some (.slice (some ⟨g, f, none⟩) z C) := (ev.out 12 (by kernel_rfl)).trans rfl
                                    clear hde ev hd
                                    go_simp
                                    exact hK _ _ ⟨hR.1.step (.inr rfl), hR.2⟩
                                  refine Reg.Steps.cons (k' := 2) rfl ?_ ?_
                                  · intro D vals a W hR hd hde ev K' hK
                                    have d0 := Reg.dep hde 0 rfl
                                    have x120 : a.tmps[120]? = some (.slice (some ⟨g, f, none⟩) z C) := ev.got hR.1 0 120 _ rfl rfl d0
                                    clear hde ev hd
                                    go_simp
                                    exact hK _ _ ⟨hR.1.step (.inr rfl), hR.2⟩
                                  refine Reg.Steps.cons (k' := 3) rfl ?_ ?_
                                  · intro D vals a W hR hd hde ev K' hK
                                    have d1 := Reg.dep hde 1 rfl
                                    have x121 : a.tmps[121]? = some (.slice (some ⟨g, f, none⟩) 7 C) := ev.got hR.1 1 121 _ rfl rfl d1
                                    have CC := Lib.hid (G1.out W (HBYW.out.on hR.2.bel))
                                    have HR1 := Lib.hid hR
                                    clear hde ev hd hR
                                    go_simp
                                    refine CC.out.mono ?_
                                    rintro e W1 ⟨rfl, rfl⟩
                                    exact hK _ _ ⟨HR1.out.1.step (.inr rfl), HR1.out.2⟩
                                  refine Reg.Steps.cons (k' := 4) rfl ?_ ?_
                                  · intro D vals a W hR hd hde ev K' hK
                                    have d2 := Reg.dep hde 2 rfl
                                    have x122 : a.tmps[122]? = some (.int .i64 (getN X f 7 : Nat)) := ev.got hR.1 2 122 _ rfl rfl d2
                                    clear hde ev hd
                                    go_simp
                                    exact hK _ _ ⟨hR.1.step (.inr rfl), hR.2⟩
                                  refine Reg.Steps.cons (k' := 5) rfl ?_ ?_
                                  · intro D vals a W hR hd hde ev K' hK
                                    have x12 : a.tmps[12]? = some (.slice (some ⟨g, f, none⟩) z C) := (ev.out 12 (by kernel_rfl)).trans rfl
                                    clear hde ev hd
                                    go_simp
                                    exact hK _ _ ⟨hR.1.step (.inr rfl), hR.2⟩
                                  refine Reg.Steps.cons (k' := 6) rfl ?_ ?_
                                  · intro D vals a W hR hd hde ev K' hK
                                    have d4 := Reg.dep hde 4 rfl
                                    have x124 : a.tmps[124]? = some (.slice (some ⟨g, f, none⟩) z C) := ev.got hR.1 4 124 _ rfl rfl d4
                                    clear hde ev hd
                                    go_simp
                                    exact hK _ _ ⟨hR.1.step (.inr rfl), hR.2⟩
                                  refine Reg.Steps.cons (k' := 7) rfl ?_ ?_
                                  · intro D vals a W hR hd hde ev K' hK
                                    have d5 := Reg.dep hde 5 rfl
                                    have x125 : a.tmps[125]? = some (.pointer (some ⟨g, f + 7, none⟩)) := ev.got hR.1 5 125 _ rfl rfl d5
                                    obtain ⟨q7, q15, q23⟩ := KEEPH.out W (HBYW.out.on hR.2.bel)
                                    clear hde ev hd
                                    go_simp
                                    exact hK _ _ ⟨hR.1.step (.inr rfl), hR.2⟩
                                  refine Reg.Steps.cons (k' := 8) rfl ?_ ?_
                                  · intro D vals a W hR hd hde ev K' hK
                                    have d6 := Reg.dep hde 6 rfl
                                    have x126 : a.tmps[126]? = some (.int .u8 (na : Int)) := ev.got hR.1 6 126 _ rfl rfl d6
                                    clear hde ev hd
                                    go_simp
                                    exact hK _ _ ⟨hR.1.step (.inr rfl), hR.2⟩
                                  refine Reg.Steps.cons (k' := 9) rfl ?_ ?_
                                  · intro D vals a W hR hd hde ev K' hK
                                    have d7 := Reg.dep hde 7 rfl
                                    have x127 : a.tmps[127]? = some (.int .u64 (na : Int)) := ev.got hR.1 7 127 _ rfl rfl d7
                                    clear hde ev hd
                                    go_simp
                                    exact hK _ _ ⟨hR.1.step (.inr rfl), hR.2⟩
                                  refine Reg.Steps.cons (k' := 10) rfl ?_ ?_
                                  · intro D vals a W hR hd hde ev K' hK
                                    have d3 := Reg.dep hde 3 rfl
                                    have x123 : a.tmps[123]? = some (.int .u64 (getN X f 7 : Nat)) := ev.got hR.1 3 123 _ rfl rfl d3
                                    have d8 := Reg.dep hde 8 rfl
                                    have x128 : a.tmps[128]? = some (.int .u64 ((na : Int) * 72057594037927936)) := ev.got hR.1 8 128 _ rfl rfl d8
                                    clear hde ev hd
                                    go_simp
                                    exact hK _ _ ⟨hR.1.step (.inr rfl), hR.2⟩
                                  refine Reg.Steps.cons (k' := 11) rfl ?_ ?_
                                  · intro D vals a W hR hd hde ev K' hK
                                    have x12 : a.tmps[12]? = some (.slice (some ⟨g, f, none⟩) z C) := (ev.out 12 (by kernel_rfl)).trans rfl
                                    clear hde ev hd
                                    go_simp
                                    exact hK _ _ ⟨hR.1.step (.inr rfl), hR.2⟩
                                  refine Reg.Steps.cons (k' := 12) rfl ?_ ?_
                                  · intro D vals a W hR hd hde ev K' hK
                                    have d10 := Reg.dep hde 10 rfl
                                    have x130 : a.tmps[130]? = some (.slice (some ⟨g, f, none⟩) z C) := ev.got hR.1 10 130 _ rfl rfl d10
                                    clear hde ev hd
                                    go_simp
                                    exact hK _ _ ⟨hR.1.step (.inr rfl), hR.2⟩
                                  refine Reg.Steps.cons (k' := 13) rfl ?_ ?_
                                  · intro D vals a W hR hd hde ev K' hK
                                    have d11 := Reg.dep hde 11 rfl
                                    have x131 : a.tmps[131]? = some (.slice (some ⟨g, f + 8, none⟩) 7 (C - 8)) := ev.got hR.1 11 131 _ rfl rfl d11
                                    have CC := Lib.hid (G2.out W (HBYW.out.on hR.2.bel))
                                    have HR1 := Lib.hid hR
                                    clear hde ev hd hR
                                    go_simp
                                    refine CC.out.mono ?_
                                    rintro e W1 ⟨rfl, rfl⟩
                                    exact hK _ _ ⟨HR1.out.1.step (.inr rfl), HR1.out.2⟩
                                  refine Reg.Steps.cons (k' := 14) rfl ?_ ?_
                                  · intro D vals a W hR hd hde ev K' hK
                                    have d12 := Reg.dep hde 12 rfl
                                    have x132 : a.tmps[132]? = some (.int .i64 (getN X (f + 8) 7 : Nat)) := ev.got hR.1 12 132 _ rfl rfl d12
                                    clear hde ev hd
                                    go_simp
                                    exact hK _ _ ⟨hR.1.step (.inr rfl), hR.2⟩
                                  refine Reg.Steps.cons (k' := 15) rfl ?_ ?_
                                  · intro D vals a W hR hd hde ev K' hK
                                    have x12 : a.tmps[12]? = some (.slice (some ⟨g, f, none⟩) z C) := (ev.out 12 (by kernel_rfl)).trans rfl
                                    clear hde ev hd
                                    go_simp
                                    exact hK _ _ ⟨hR.1.step (.inr rfl), hR.2⟩
                                  refine Reg.Steps.cons (k' := 16) rfl ?_ ?_
                                  · intro D vals a W hR hd hde ev K' hK
                                    have d14 := Reg.dep hde 14 rfl
                                    have x134 : a.tmps[134]? = some (.slice (some ⟨g, f, none⟩) z C) := ev.got hR.1 14 134 _ rfl rfl d14
                                    clear hde ev hd
                                    go_simp
                                    exact hK _ _ ⟨hR.1.step (.inr rfl), hR.2⟩
                                  refine Reg.Steps.cons (k' := 17) rfl ?_ ?_
                                  · intro D vals a W hR hd hde ev K' hK
                                    have d15 := Reg.dep hde 15 rfl
                                    have x135 : a.tmps[135]? = some (.pointer (some ⟨g, f + 15, none⟩)) := ev.got hR.1 15 135 _ rfl rfl d15
                                    obtain ⟨q7, q15, q23⟩ := KEEPH.out W (HBYW.out.on hR.2.bel)
                                    clear hde ev hd
                                    go_simp
                                    exact hK _ _ ⟨hR.1.step (.inr rfl), hR.2⟩
                                  refine Reg.Steps.cons (k' := 18) rfl ?_ ?_
                                  · intro D vals a W hR hd hde ev K' hK
                                    have d16 := Reg.dep hde 16 rfl
                                    have x136 : a.tmps[136]? = some (.int .u8 (nb' : Int)) := ev.got hR.1 16 136 _ rfl rfl d16
                                    clear hde ev hd
                                    go_simp
                                    exact hK _ _ ⟨hR.1.step (.inr rfl), hR.2⟩
                                  refine Reg.Steps.cons (k' := 19) rfl ?_ ?_
                                  · intro D vals a W hR hd hde ev K' hK
                                    have d17 := Reg.dep hde 17 rfl
                                    have x137 : a.tmps[137]? = some (.int .u64 (nb' : Int)) := ev.got hR.1 17 137 _ rfl rfl d17
                                    clear hde ev hd
                                    go_simp
                                    exact hK _ _ ⟨hR.1.step (.inr rfl), hR.2⟩
                                  refine Reg.Steps.cons (k' := 20) rfl ?_ ?_
                                  · intro D vals a W hR hd hde ev K' hK
                                    have d13 := Reg.dep hde 13 rfl
                                    have x133 : a.tmps[133]? = some (.int .u64 (getN X (f + 8) 7 : Nat)) := ev.got hR.1 13 133 _ rfl rfl d13
                                    have d18 := Reg.dep hde 18 rfl
                                    have x138 : a.tmps[138]? = some (.int .u64 ((nb' : Int) * 72057594037927936)) := ev.got hR.1 18 138 _ rfl rfl d18
                                    clear hde ev hd
                                    go_simp
                                    exact hK _ _ ⟨hR.1.step (.inr rfl), hR.2⟩
                                  refine Reg.Steps.cons (k' := 21) rfl ?_ ?_
                                  · intro D vals a W hR hd hde ev K' hK
                                    have x12 : a.tmps[12]? = some (.slice (some ⟨g, f, none⟩) z C) := (ev.out 12 (by kernel_rfl)).trans rfl
                                    clear hde ev hd
                                    go_simp
                                    exact hK _ _ ⟨hR.1.step (.inr rfl), hR.2⟩
                                  refine Reg.Steps.cons (k' := 22) rfl ?_ ?_
                                  · intro D vals a W hR hd hde ev K' hK
                                    have d20 := Reg.dep hde 20 rfl
                                    have x140 : a.tmps[140]? = some (.slice (some ⟨g, f, none⟩) z C) := ev.got hR.1 20 140 _ rfl rfl d20
                                    clear hde ev hd
                                    go_simp
                                    exact hK _ _ ⟨hR.1.step (.inr rfl), hR.2⟩
                                  refine Reg.Steps.cons (k' := 23) rfl ?_ ?_
                                  · intro D vals a W hR hd hde ev K' hK
                                    have d21 := Reg.dep hde 21 rfl
                                    have x141 : a.tmps[141]? = some (.slice (some ⟨g, f + 16, none⟩) 7 (C - 16)) := ev.got hR.1 21 141 _ rfl rfl d21
                                    have CC := Lib.hid (G3.out W (HBYW.out.on hR.2.bel))
                                    have HR1 := Lib.hid hR
                                    clear hde ev hd hR
                                    go_simp
                                    refine CC.out.mono ?_
                                    rintro e W1 ⟨rfl, rfl⟩
                                    exact hK _ _ ⟨HR1.out.1.step (.inr rfl), HR1.out.2⟩
                                  refine Reg.Steps.cons (k' := 24) rfl ?_ ?_
                                  · intro D vals a W hR hd hde ev K' hK
                                    have d22 := Reg.dep hde 22 rfl
                                    have x142 : a.tmps[142]? = some (.int .i64 (getN X (f + 16) 7 : Nat)) := ev.got hR.1 22 142 _ rfl rfl d22
                                    clear hde ev hd
                                    go_simp
                                    exact hK _ _ ⟨hR.1.step (.inr rfl), hR.2⟩
                                  refine Reg.Steps.cons (k' := 25) rfl ?_ ?_
                                  · intro D vals a W hR hd hde ev K' hK
                                    have x12 : a.tmps[12]? = some (.slice (some ⟨g, f, none⟩) z C) := (ev.out 12 (by kernel_rfl)).trans rfl
                                    clear hde ev hd
                                    go_simp
                                    exact hK _ _ ⟨hR.1.step (.inr rfl), hR.2⟩
                                  refine Reg.Steps.cons (k' := 26) rfl ?_ ?_
                                  · intro D vals a W hR hd hde ev K' hK
                                    have d24 := Reg.dep hde 24 rfl
                                    have x144 : a.tmps[144]? = some (.slice (some ⟨g, f, none⟩) z C) := ev.got hR.1 24 144 _ rfl rfl d24
                                    clear hde ev hd
                                    go_simp
                                    exact hK _ _ ⟨hR.1.step (.inr rfl), hR.2⟩
                                  refine Reg.Steps.cons (k' := 27) rfl ?_ ?_
                                  · intro D vals a W hR hd hde ev K' hK
                                    have d25 := Reg.dep hde 25 rfl
                                    have x145 : a.tmps[145]? = some (.pointer (some ⟨g, f + 23, none⟩)) := ev.got hR.1 25 145 _ rfl rfl d25
                                    obtain ⟨q7, q15, q23⟩ := KEEPH.out W (HBYW.out.on hR.2.bel)
                                    clear hde ev hd
                                    go_simp
                                    exact hK _ _ ⟨hR.1.step (.inr rfl), hR.2⟩
                                  refine Reg.Steps.cons (k' := 28) rfl ?_ ?_
                                  · intro D vals a W hR hd hde ev K' hK
                                    have d26 := Reg.dep hde 26 rfl
                                    have x146 : a.tmps[146]? = some (.int .u8 (nc : Int)) := ev.got hR.1 26 146 _ rfl rfl d26
                                    clear hde ev hd
                                    go_simp
                                    exact hK _ _ ⟨hR.1.step (.inr rfl), hR.2⟩
                                  refine Reg.Steps.cons (k' := 29) rfl ?_ ?_
                                  · intro D vals a W hR hd hde ev K' hK
                                    have d27 := Reg.dep hde 27 rfl
                                    have x147 : a.tmps[147]? = some (.int .u64 (nc : Int)) := ev.got hR.1 27 147 _ rfl rfl d27
                                    clear hde ev hd
                                    go_simp
                                    exact hK _ _ ⟨hR.1.step (.inr rfl), hR.2⟩
                                  refine Reg.Steps.cons (k' := 30) rfl ?_ ?_
                                  · intro D vals a W hR hd hde ev K' hK
                                    have d23 := Reg.dep hde 23 rfl
                                    have x143 : a.tmps[143]? = some (.int .u64 (getN X (f + 16) 7 : Nat)) := ev.got hR.1 23 143 _ rfl rfl d23
                                    have d28 := Reg.dep hde 28 rfl
                                    have x148 : a.tmps[148]? = some (.int .u64 ((nc : Int) * 72057594037927936)) := ev.got hR.1 28 148 _ rfl rfl d28
                                    clear hde ev hd
                                    go_simp
                                    exact hK _ _ ⟨hR.1.step (.inr rfl), hR.2⟩
                                  refine Reg.Steps.cons (k' := 31) rfl ?_ ?_
                                  · intro D vals a W hR hd hde ev K' hK
                                    have x12 : a.tmps[12]? = some (.slice (some ⟨g, f, none⟩) z C) := (ev.out 12 (by kernel_rfl)).trans rfl
                                    clear hde ev hd
                                    go_simp
                                    exact hK _ _ ⟨hR.1.step (.inr rfl), hR.2⟩
                                  refine Reg.Steps.cons (k' := 32) rfl ?_ ?_
                                  · intro D vals a W hR hd hde ev K' hK
                                    have d30 := Reg.dep hde 30 rfl
                                    have x150 : a.tmps[150]? = some (.slice (some ⟨g, f, none⟩) z C) := ev.got hR.1 30 150 _ rfl rfl d30
                                    clear hde ev hd
                                    go_simp
                                    exact hK _ _ ⟨hR.1.step (.inr rfl), hR.2⟩
                                  refine Reg.Steps.cons (k' := 33) rfl ?_ ?_
                                  · intro D vals a W hR hd hde ev K' hK
                                    have d31 := Reg.dep hde 31 rfl
                                    have x151 : a.tmps[151]? = some (.slice (some ⟨g, f + 24, none⟩) 4 (C - 24)) := ev.got hR.1 31 151 _ rfl rfl d31
                                    have CC := Lib.hid (G4.out W (HBYW.out.on hR.2.bel))
                                    have HR1 := Lib.hid hR
                                    clear hde ev hd hR
                                    go_simp
                                    refine CC.out.mono ?_
                                    rintro e W1 ⟨rfl, rfl⟩
                                    exact hK _ _ ⟨HR1.out.1.step (.inr rfl), HR1.out.2⟩
                                  refine Reg.Steps.cons (k' := 34) rfl ?_ ?_
                                  · intro D vals a W hR hd hde ev K' hK
                                    have d32 := Reg.dep hde 32 rfl
                                    have x152 : a.tmps[152]? = some (.int .i64 (getN X (f + 24) 4 : Nat)) := ev.got hR.1 32 152 _ rfl rfl d32
                                    clear hde ev hd
                                    go_simp
                                    exact hK _ _ ⟨hR.1.step (.inr rfl), hR.2⟩
                                  refine Reg.Steps.cons (k' := 35) rfl ?_ ?_
                                  · intro D vals a W hR hd hde ev K' hK
                                    have x12 : a.tmps[12]? = some (.slice (some ⟨g, f, none⟩) z C) := (ev.out 12 (by kernel_rfl)).trans rfl
                                    clear hde ev hd
                                    go_simp
                                    exact hK _ _ ⟨hR.1.step (.inr rfl), hR.2⟩
                                  refine Reg.Steps.cons (k' := 36) rfl ?_ ?_
                                  · intro D vals a W hR hd hde ev K' hK
                                    have d34 := Reg.dep hde 34 rfl
                                    have x154 : a.tmps[154]? = some (.slice (some ⟨g, f, none⟩) z C) := ev.got hR.1 34 154 _ rfl rfl d34
                                    clear hde ev hd
                                    go_simp
                                    exact hK _ _ ⟨hR.1.step (.inr rfl), hR.2⟩
                                  refine Reg.Steps.cons (k' := 37) rfl ?_ ?_
                                  · intro D vals a W hR hd hde ev K' hK
                                    have d35 := Reg.dep hde 35 rfl
                                    have x155 : a.tmps[155]? = some (.slice (some ⟨g, f + 28, none⟩) 2 (C - 28)) := ev.got hR.1 35 155 _ rfl rfl d35
                                    have CC := Lib.hid (G5.out W (HBYW.out.on hR.2.bel))
                                    have HR1 := Lib.hid hR
                                    clear hde ev hd hR
                                    go_simp
                                    refine CC.out.mono ?_
                                    rintro e W1 ⟨rfl, rfl⟩
                                    exact hK _ _ ⟨HR1.out.1.step (.inr rfl), HR1.out.2⟩
                                  refine Reg.Steps.cons (k' := 38) rfl ?_ ?_
                                  · intro D vals a W hR hd hde ev K' hK
                                    have d36 := Reg.dep hde 36 rfl
                                    have x156 : a.tmps[156]? = some (.int .i64 (getN X (f + 28) 2 : Nat)) := ev.got hR.1 36 156 _ rfl rfl d36
                                    clear hde ev hd
                                    go_simp
                                    exact hK _ _ ⟨hR.1.step (.inr rfl), hR.2⟩
                                  refine Reg.Steps.cons (k' := 39) rfl ?_ ?_
                                  · intro D vals a W hR hd hde ev K' hK
                                    have d33 := Reg.dep hde 33 rfl
                                    have x153 : a.tmps[153]? = some (.int .i64 ((getN X (f + 24) 4 : Nat) - 1)) := ev.got hR.1 33 153 _ rfl rfl d33
                                    have d37 := Reg.dep hde 37 rfl
                                    have x157 : a.tmps[157]? = some (.int .i64 ((getN X (f + 28) 2 : Nat) - 1)) := ev.got hR.1 37 157 _ rfl rfl d37
                                    clear hde ev hd
                                    go_simp
                                    exact hK _ _ ⟨hR.1.step (.inr rfl), hR.2⟩
                                  refine Reg.Steps.cons (k' := 40) rfl ?_ ?_
                                  · intro D vals a W hR hd hde ev K' hK
                                    have x12 : a.tmps[12]? = some (.slice (some ⟨g, f, none⟩) z C) := (ev.out 12 (by kernel_rfl)).trans rfl
                                    clear hde ev hd
                                    go_simp
                                    exact hK _ _ ⟨hR.1.step (.inr rfl), hR.2⟩
                                  refine Reg.Steps.cons (k' := 41) rfl ?_ ?_
                                  · intro D vals a W hR hd hde ev K' hK
                                    have d39 := Reg.dep hde 39 rfl
                                    have x159 : a.tmps[159]? = some (.slice (some ⟨g, f, none⟩) z C) := ev.got hR.1 39 159 _ rfl rfl d39
                                    have hc30 := H30.out
                                    clear hde ev hd
                                    go_simp
                                    exact hK _ _ ⟨hR.1.step (.inr rfl), hR.2⟩
                                  refine Reg.Steps.cons (k' := 42) rfl ?_ ?_
                                  · intro D vals a W hR hd hde ev K' hK
                                    have d40 := Reg.dep hde 40 rfl
                                    have x160 : a.tmps[160]? = some (.slice (some ⟨g, f, none⟩) (z - 30) 0) := ev.got hR.1 40 160 _ rfl rfl d40
                                    have CC := Lib.hid ((CCP1.out H30.out) W (HBYW.out.on hR.2.bel))
                                    have h := hR.2
                                    rw [hd] at h
                                    have HR1 := Lib.hid hR.1
                                    have HT := Lib.hid h
                                    clear hde ev hd hR h
                                    go_simp
                                    refine CC.out.mono ?_
                                    rintro e W1 ⟨v8, rfl, ho8, hb8, _⟩
                                    obtain ⟨A8, c8, e8, _⟩ := Sl.of_own ho8
                                    subst e8
                                    exact hK _ _ ⟨HR1.out.step (.inl rfl), HT.out.copy ho8 hb8⟩
                                  refine Reg.Steps.cons (k' := 43) rfl ?_ ?_
                                  · intro D vals a W hR hd hde ev K' hK
                                    have d9 := Reg.dep hde 9 rfl
                                    have x129 : a.tmps[129]? = some (.int .u64 (getN X f 8 : Nat)) := ev.got hR.1 9 129 _ rfl rfl d9
                                    have d19 := Reg.dep hde 19 rfl
                                    have x139 : a.tmps[139]? = some (.int .u64 (getN X (f + 8) 8 : Nat)) := ev.got hR.1 19 139 _ rfl rfl d19
                                    have d29 := Reg.dep hde 29 rfl
                                    have x149 : a.tmps[149]? = some (.int .u64 (getN X (f + 16) 8 : Nat)) := ev.got hR.1 29 149 _ rfl rfl d29
                                    have d38 := Reg.dep hde 38 rfl
                                    have x158 : a.tmps[158]? = some (.agg #[.int .i64 ((getN X (f + 24) 4 : Nat) - 1), .int .i64 ((getN X (f + 28) 2 : Nat) - 1)]) := ev.got hR.1 38 158 _ rfl rfl d38
                                    have d41 := Reg.dep hde 41 rfl
                                    have x161 : a.tmps[161]? = some (vals 41) := ev.done 41 161 rfl d41
                                    have h := hR.2
                                    rw [hd, d41] at h
                                    obtain ⟨A8, c8, e8, hm⟩ := h.build
                                    rw [HBX.out] at hm
                                    rw [e8] at x161
                                    have HR1 := Lib.hid hR.1
                                    have HT := Lib.hid hm
                                    have HD41 := Lib.hid d41
                                    clear hde ev hd hR h hm e8 d41
                                    go_simp
                                    exact hK _ _ ⟨HR1.out.step (.inl rfl), by show TM wr _ _ _ _ (D 41) true (D 43) (D 44) (vals 41) _ (vals 43); rw [HD41.out, HBX.out]; exact HT.out⟩
                                  refine Reg.Steps.cons (k' := 44) rfl ?_ ?_
                                  · intro D vals a W hR hd hde ev K' hK
                                    have h := hR.2
                                    rw [hd] at h
                                    have HR1 := Lib.hid hR.1
                                    have HT := Lib.hid (h.alloc_ (cs := #[.int .u64 0, .int .u64 0, .int .u64 0, .int .i64 0, .int .i64 0, .slice none 0 0]) rfl)
                                    clear hde ev hd hR h
                                    go_simp
                                    exact hK _ _ ⟨HR1.out.step (.inl rfl), HT.out⟩
                                  refine Reg.Steps.cons (k' := 45) rfl ?_ ?_
                                  · intro D vals a W hR hd hde ev K' hK
                                    have dA := Reg.dep hde 42 rfl
                                    have dB := Reg.dep hde 43 rfl
                                    have h := hR.2
                                    have dC := h.o1 dA
                                    rw [hd, dA, dB, dC] at h
                                    obtain ⟨A8, c8, T, cs, e1, e2, hb, hs, hm⟩ := h.store (fun A c => by rw [HBX.out]; rfl)
                                    have xA : a.tmps[162]? = some _ := ev.done 42 162 rfl dA
                                    have xB : a.tmps[13]? = some _ := ev.done 43 13 rfl dB
                                    rw [e1] at xA
                                    rw [e2] at xB
                                    refine step_store_row rfl _ _ _ rfl T _ (Reg.eval_of xB) (Reg.eval_of xA) 33 _ hb (by rw [HBX.out]; kernel_rfl) (by rw [hs, HBX.out]; rfl) (by rw [HBX.out]; simp [Value.oneCell']) (hK undef _ ⟨hR.1.step (.inl rfl), ?_⟩)
                                    show TM wr _ _ _ _ (D 41) (D 42) (D 43) true (vals 41) (vals 42) (vals 43)
                                    rw [dA, dB, dC]
                                    exact hm
                                  exact Reg.Steps.nil
                                · intro D vals W2 hD hR
                                  have hm := hR.2
                                  rw [hD 41 (by decide), hD 42 (by decide), hD 43 (by decide), hD 44 (by decide)] at hm
                                  clear hR hD
                                  obtain ⟨A8, c8, e41, ho⟩ := hm.c1 rfl
                                  obtain ⟨T, cs, e43, hT, hbk, hsz, hcs⟩ := hm.c3 rfl
                                  have hcs' := hcs rfl A8 c8 e41
                                  rw [hcs'] at hbk
                                  have HFIN := Lib.hid (show LS w W2 g m0 R X st k (fun i => decide (i < 4 + 4 * n) || mkf (Lx X) (k + 1) i) F E A cc ∧ Blk W2 T 33 (BX A8 c8) ∧ OwnB W2 wr.heap.size (.slice A8 (z - 30) c8) (z - 30) (u8s (sub X (f + 30) (z - 30))) from ⟨HQ.out.below hm.bel, hbk, ho⟩)
                                  clear hm ho hT hbk hsz hcs hcs' e41 cs
                                  simp only [Reg.fin, Act.put, List.setIfInBounds_toArray, List.set_cons_zero, List.set_cons_succ, e43]
                                  clear e43
                                  generalize vals 0 = zz0; generalize vals 1 = zz1; generalize vals 2 = zz2; generalize vals 3 = zz3; generalize vals 4 = zz4; generalize vals 5 = zz5; generalize vals 6 = zz6; generalize vals 7 = zz7; generalize vals 8 = zz8; generalize vals 9 = zz9; generalize vals 10 = zz10; generalize vals 11 = zz11; generalize vals 12 = zz12; generalize vals 13 = zz13; generalize vals 14 = zz14; generalize vals 15 = zz15; generalize vals 16 = zz16; generalize vals 17 = zz17; generalize vals 18 = zz18; generalize vals 19 = zz19; generalize vals 20 = zz20; generalize vals 21 = zz21; generalize vals 22 = zz22; generalize vals 23 = zz23; generalize vals 24 = zz24; generalize vals 25 = zz25; generalize vals 26 = zz26; generalize vals 27 = zz27; generalize vals 28 = zz28; generalize vals 29 = zz29; generalize vals 30 = zz30; generalize vals 31 = zz31; generalize vals 32 = zz32; generalize vals 33 = zz33; generalize vals 34 = zz34; generalize vals 35 = zz35; generalize vals 36 = zz36; generalize vals 37 = zz37; generalize vals 38 = zz38; generalize vals 39 = zz39; generalize vals 40 = zz40; generalize vals 41 = zz41; generalize vals 42 = zz42; generalize vals 44 = zz44
                                  clear vals
                                  go_wp2_with fail
                                  go_meet
                                  exact ⟨T, A8, c8, rfl, HFIN.out⟩
                              · have j5 : ¬ C = 30 := hc30
                                clear hc30
                                refine Reg.wp_region_inv_lit (by kernel_rfl) (by kernel_rfl) (fun D vals W => Reg.Fx (fun k9 => ([some (.slice (some ⟨g, f, none⟩) z C), some (.slice (some ⟨g, f, none⟩) 7 C), some (.int .i64 (getN X f 7 : Nat)), some (.int .u64 (getN X f 7 : Nat)), some (.slice (some ⟨g, f, none⟩) z C), some (.pointer (some ⟨g, f + 7, none⟩)), some (.int .u8 (na : Int)), some (.int .u64 (na : Int)), some (.int .u64 ((na : Int) * 72057594037927936)), some (.int .u64 (getN X f 8 : Nat)), some (.slice (some ⟨g, f, none⟩) z C), some (.slice (some ⟨g, f + 8, none⟩) 7 (C - 8)), some (.int .i64 (getN X (f + 8) 7 : Nat)), some (.int .u64 (getN X (f + 8) 7 : Nat)), some (.slice (some ⟨g, f, none⟩) z C), some (.pointer (some ⟨g, f + 15, none⟩)), some (.int .u8 (nb' : Int)), some (.int .u64 (nb' : Int)), some (.int .u64 ((nb' : Int) * 72057594037927936)), some (.int .u64 (getN X (f + 8) 8 : Nat)), some (.slice (some ⟨g, f, none⟩) z C), some (.slice (some ⟨g, f + 16, none⟩) 7 (C - 16)), some (.int .i64 (getN X (f + 16) 7 : Nat)), some (.int .u64 (getN X (f + 16) 7 : Nat)), some (.slice (some ⟨g, f, none⟩) z C), some (.pointer (some ⟨g, f + 23, none⟩)), some (.int .u8 (nc : Int)), some (.int .u64 (nc : Int)), some (.int .u64 ((nc : Int) * 72057594037927936)), some (.int .u64 (getN X (f + 16) 8 : Nat)), some (.slice (some ⟨g, f, none⟩) z C), some (.slice (some ⟨g, f + 24, none⟩) 4 (C - 24)), some (.int .i64 (getN X (f + 24) 4 : Nat)), some (.int .i64 ((getN X (f + 24) 4 : Nat) - 1)), some (.slice (some ⟨g, f, none⟩) z C), some (.slice (some ⟨g, f + 28, none⟩) 2 (C - 28)), some (.int .i64 (getN X (f + 28) 2 : Nat)), some (.int .i64 ((getN X (f + 28) 2 : Nat) - 1)), some (.agg #[.int .i64 ((getN X (f + 24) 4 : Nat) - 1), .int .i64 ((getN X (f + 28) 2 : Nat) - 1)]), some (.slice (some ⟨g, f, none⟩) z C), some (.slice (some ⟨g, f + 30, none⟩) (z - 30) (C - 30)), none, none, none, none] : List (Option Value)).getD k9 none) D vals ∧ TM wr W (z - 30) (sub X (f + 30) (z - 30)) BX (D 41) (D 42) (D 43) (D 44) (vals 41) (vals 42) (vals 43)) ⟨Reg.Fx.init _ _, tm_new _ _ _ _ _ _ _⟩ (fun Q' => ?_) ?_
                                · refine Reg.Steps.cons (k' := 1) rfl ?_ ?_
                                  · intro D vals a W hR hd hde ev K' hK
                                    have x12 : a.tmps[12]? = some (.slice (some ⟨g, f, none⟩) z C) := (ev.out 12 (by kernel_rfl)).trans rfl
                                    clear hde ev hd
                                    go_simp
                                    exact hK _ _ ⟨hR.1.step (.inr rfl), hR.2⟩
                                  refine Reg.Steps.cons (k' := 2) rfl ?_ ?_
                                  · intro D vals a W hR hd hde ev K' hK
                                    have d0 := Reg.dep hde 0 rfl
                                    have x120 : a.tmps[120]? = some (.slice (some ⟨g, f, none⟩) z C) := ev.got hR.1 0 120 _ rfl rfl d0
                                    clear hde ev hd
                                    go_simp
                                    exact hK _ _ ⟨hR.1.step (.inr rfl), hR.2⟩
                                  refine Reg.Steps.cons (k' := 3) rfl ?_ ?_
                                  · intro D vals a W hR hd hde ev K' hK
                                    have d1 := Reg.dep hde 1 rfl
                                    have x121 : a.tmps[121]? = some (.slice (some ⟨g, f, none⟩) 7 C) := ev.got hR.1 1 121 _ rfl rfl d1
                                    have CC := Lib.hid (G1.out W (HBYW.out.on hR.2.bel))
                                    have HR1 := Lib.hid hR
                                    clear hde ev hd hR
                                    go_simp
                                    refine CC.out.mono ?_
                                    rintro e W1 ⟨rfl, rfl⟩
                                    exact hK _ _ ⟨HR1.out.1.step (.inr rfl), HR1.out.2⟩
                                  refine Reg.Steps.cons (k' := 4) rfl ?_ ?_
                                  · intro D vals a W hR hd hde ev K' hK
                                    have d2 := Reg.dep hde 2 rfl
                                    have x122 : a.tmps[122]? = some (.int .i64 (getN X f 7 : Nat)) := ev.got hR.1 2 122 _ rfl rfl d2
                                    clear hde ev hd
                                    go_simp
                                    exact hK _ _ ⟨hR.1.step (.inr rfl), hR.2⟩
                                  refine Reg.Steps.cons (k' := 5) rfl ?_ ?_
                                  · intro D vals a W hR hd hde ev K' hK
                                    have x12 : a.tmps[12]? = some (.slice (some ⟨g, f, none⟩) z C) := (ev.out 12 (by kernel_rfl)).trans rfl
                                    clear hde ev hd
                                    go_simp
                                    exact hK _ _ ⟨hR.1.step (.inr rfl), hR.2⟩
                                  refine Reg.Steps.cons (k' := 6) rfl ?_ ?_
                                  · intro D vals a W hR hd hde ev K' hK
                                    have d4 := Reg.dep hde 4 rfl
                                    have x124 : a.tmps[124]? = some (.slice (some ⟨g, f, none⟩) z C) := ev.got hR.1 4 124 _ rfl rfl d4
                                    clear hde ev hd
                                    go_simp
                                    exact hK _ _ ⟨hR.1.step (.inr rfl), hR.2⟩
                                  refine Reg.Steps.cons (k' := 7) rfl ?_ ?_
                                  · intro D vals a W hR hd hde ev K' hK
                                    have d5 := Reg.dep hde 5 rfl
                                    have x125 : a.tmps[125]? = some (.pointer (some ⟨g, f + 7, none⟩)) := ev.got hR.1 5 125 _ rfl rfl d5
                                    obtain ⟨q7, q15, q23⟩ := KEEPH.out W (HBYW.out.on hR.2.bel)
                                    clear hde ev hd
                                    go_simp
                                    exact hK _ _ ⟨hR.1.step (.inr rfl), hR.2⟩
                                  refine Reg.Steps.cons (k' := 8) rfl ?_ ?_
                                  · intro D vals a W hR hd hde ev K' hK
                                    have d6 := Reg.dep hde 6 rfl
                                    have x126 : a.tmps[126]? = some (.int .u8 (na : Int)) := ev.got hR.1 6 126 _ rfl rfl d6
                                    clear hde ev hd
                                    go_simp
                                    exact hK _ _ ⟨hR.1.step (.inr rfl), hR.2⟩
                                  refine Reg.Steps.cons (k' := 9) rfl ?_ ?_
                                  · intro D vals a W hR hd hde ev K' hK
                                    have d7 := Reg.dep hde 7 rfl
                                    have x127 : a.tmps[127]? = some (.int .u64 (na : Int)) := ev.got hR.1 7 127 _ rfl rfl d7
                                    clear hde ev hd
                                    go_simp
                                    exact hK _ _ ⟨hR.1.step (.inr rfl), hR.2⟩
                                  refine Reg.Steps.cons (k' := 10) rfl ?_ ?_
                                  · intro D vals a W hR hd hde ev K' hK
                                    have d3 := Reg.dep hde 3 rfl
                                    have x123 : a.tmps[123]? = some (.int .u64 (getN X f 7 : Nat)) := ev.got hR.1 3 123 _ rfl rfl d3
                                    have d8 := Reg.dep hde 8 rfl
                                    have x128 : a.tmps[128]? = some (.int .u64 ((na : Int) * 72057594037927936)) := ev.got hR.1 8 128 _ rfl rfl d8
                                    clear hde ev hd
                                    go_simp
                                    exact hK _ _ ⟨hR.1.step (.inr rfl), hR.2⟩
                                  refine Reg.Steps.cons (k' := 11) rfl ?_ ?_
                                  · intro D vals a W hR hd hde ev K' hK
                                    have x12 : a.tmps[12]? = some (.slice (some ⟨g, f, none⟩) z C) := (ev.out 12 (by kernel_rfl)).trans rfl
                                    clear hde ev hd
                                    go_simp
                                    exact hK _ _ ⟨hR.1.step (.inr rfl), hR.2⟩
                                  refine Reg.Steps.cons (k' := 12) rfl ?_ ?_
                                  · intro D vals a W hR hd hde ev K' hK
                                    have d10 := Reg.dep hde 10 rfl
                                    have x130 : a.tmps[130]? = some (.slice (some ⟨g, f, none⟩) z C) := ev.got hR.1 10 130 _ rfl rfl d10
                                    clear hde ev hd
                                    go_simp
                                    exact hK _ _ ⟨hR.1.step (.inr rfl), hR.2⟩
                                  refine Reg.Steps.cons (k' := 13) rfl ?_ ?_
                                  · intro D vals a W hR hd hde ev K' hK
                                    have d11 := Reg.dep hde 11 rfl
                                    have x131 : a.tmps[131]? = some (.slice (some ⟨g, f + 8, none⟩) 7 (C - 8)) := ev.got hR.1 11 131 _ rfl rfl d11
                                    have CC := Lib.hid (G2.out W (HBYW.out.on hR.2.bel))
                                    have HR1 := Lib.hid hR
                                    clear hde ev hd hR
                                    go_simp
                                    refine CC.out.mono ?_
                                    rintro e W1 ⟨rfl, rfl⟩
                                    exact hK _ _ ⟨HR1.out.1.step (.inr rfl), HR1.out.2⟩
                                  refine Reg.Steps.cons (k' := 14) rfl ?_ ?_
                                  · intro D vals a W hR hd hde ev K' hK
                                    have d12 := Reg.dep hde 12 rfl
                                    have x132 : a.tmps[132]? = some (.int .i64 (getN X (f + 8) 7 : Nat)) := ev.got hR.1 12 132 _ rfl rfl d12
                                    clear hde ev hd
                                    go_simp
                                    exact hK _ _ ⟨hR.1.step (.inr rfl), hR.2⟩
                                  refine Reg.Steps.cons (k' := 15) rfl ?_ ?_
                                  · intro D vals a W hR hd hde ev K' hK
                                    have x12 : a.tmps[12]? = some (.slice (some ⟨g, f, none⟩) z C) := (ev.out 12 (by kernel_rfl)).trans rfl
                                    clear hde ev hd
                                    go_simp
                                    exact hK _ _ ⟨hR.1.step (.inr rfl), hR.2⟩
                                  refine Reg.Steps.cons (k' := 16) rfl ?_ ?_
                                  · intro D vals a W hR hd hde ev K' hK
                                    have d14 := Reg.dep hde 14 rfl
                                    have x134 : a.tmps[134]? = some (.slice (some ⟨g, f, none⟩) z C) := ev.got hR.1 14 134 _ rfl rfl d14
                                    clear hde ev hd
                                    go_simp
                                    exact hK _ _ ⟨hR.1.step (.inr rfl), hR.2⟩
                                  refine Reg.Steps.cons (k' := 17) rfl ?_ ?_
                                  · intro D vals a W hR hd hde ev K' hK
                                    have d15 := Reg.dep hde 15 rfl
                                    have x135 : a.tmps[135]? = some (.pointer (some ⟨g, f + 15, none⟩)) := ev.got hR.1 15 135 _ rfl rfl d15
                                    obtain ⟨q7, q15, q23⟩ := KEEPH.out W (HBYW.out.on hR.2.bel)
                                    clear hde ev hd
                                    go_simp
                                    exact hK _ _ ⟨hR.1.step (.inr rfl), hR.2⟩
                                  refine Reg.Steps.cons (k' := 18) rfl ?_ ?_
                                  · intro D vals a W hR hd hde ev K' hK
                                    have d16 := Reg.dep hde 16 rfl
                                    have x136 : a.tmps[136]? = some (.int .u8 (nb' : Int)) := ev.got hR.1 16 136 _ rfl rfl d16
                                    clear hde ev hd
                                    go_simp
                                    exact hK _ _ ⟨hR.1.step (.inr rfl), hR.2⟩
                                  refine Reg.Steps.cons (k' := 19) rfl ?_ ?_
                                  · intro D vals a W hR hd hde ev K' hK
                                    have d17 := Reg.dep hde 17 rfl
                                    have x137 : a.tmps[137]? = some (.int .u64 (nb' : Int)) := ev.got hR.1 17 137 _ rfl rfl d17
                                    clear hde ev hd
                                    go_simp
                                    exact hK _ _ ⟨hR.1.step (.inr rfl), hR.2⟩
                                  refine Reg.Steps.cons (k' := 20) rfl ?_ ?_
                                  · intro D vals a W hR hd hde ev K' hK
                                    have d13 := Reg.dep hde 13 rfl
                                    have x133 : a.tmps[133]? = some (.int .u64 (getN X (f + 8) 7 : Nat)) := ev.got hR.1 13 133 _ rfl rfl d13
                                    have d18 := Reg.dep hde 18 rfl
                                    have x138 : a.tmps[138]? = some (.int .u64 ((nb' : Int) * 72057594037927936)) := ev.got hR.1 18 138 _ rfl rfl d18
                                    clear hde ev hd
                                    go_simp
                                    exact hK _ _ ⟨hR.1.step (.inr rfl), hR.2⟩
                                  refine Reg.Steps.cons (k' := 21) rfl ?_ ?_
                                  · intro D vals a W hR hd hde ev K' hK
                                    have x12 : a.tmps[12]? = some (.slice (some ⟨g, f, none⟩) z C) := (ev.out 12 (by kernel_rfl)).trans rfl
                                    clear hde ev hd
                                    go_simp
                                    exact hK _ _ ⟨hR.1.step (.inr rfl), hR.2⟩
                                  refine Reg.Steps.cons (k' := 22) rfl ?_ ?_
                                  · intro D vals a W hR hd hde ev K' hK
                                    have d20 := Reg.dep hde 20 rfl
                                    have x140 : a.tmps[140]? = some (.slice (some ⟨g, f, none⟩) z C) := ev.got hR.1 20 140 _ rfl rfl d20
                                    clear hde ev hd
                                    go_simp
                                    exact hK _ _ ⟨hR.1.step (.inr rfl), hR.2⟩
                                  refine Reg.Steps.cons (k' := 23) rfl ?_ ?_
                                  · intro D vals a W hR hd hde ev K' hK
                                    have d21 := Reg.dep hde 21 rfl
                                    have x141 : a.tmps[141]? = some (.slice (some ⟨g, f + 16, none⟩) 7 (C - 16)) := ev.got hR.1 21 141 _ rfl rfl d21
                                    have CC := Lib.hid (G3.out W (HBYW.out.on hR.2.bel))
                                    have HR1 := Lib.hid hR
                                    clear hde ev hd hR
                                    go_simp
                                    refine CC.out.mono ?_
                                    rintro e W1 ⟨rfl, rfl⟩
                                    exact hK _ _ ⟨HR1.out.1.step (.inr rfl), HR1.out.2⟩
                                  refine Reg.Steps.cons (k' := 24) rfl ?_ ?_
                                  · intro D vals a W hR hd hde ev K' hK
                                    have d22 := Reg.dep hde 22 rfl
                                    have x142 : a.tmps[142]? = some (.int .i64 (getN X (f + 16) 7 : Nat)) := ev.got hR.1 22 142 _ rfl rfl d22
                                    clear hde ev hd
                                    go_simp
                                    exact hK _ _ ⟨hR.1.step (.inr rfl), hR.2⟩
                                  refine Reg.Steps.cons (k' := 25) rfl ?_ ?_
                                  · intro D vals a W hR hd hde ev K' hK
                                    have x12 : a.tmps[12]? = some (.slice (some ⟨g, f, none⟩) z C) := (ev.out 12 (by kernel_rfl)).trans rfl
                                    clear hde ev hd
                                    go_simp
                                    exact hK _ _ ⟨hR.1.step (.inr rfl), hR.2⟩
                                  refine Reg.Steps.cons (k' := 26) rfl ?_ ?_
                                  · intro D vals a W hR hd hde ev K' hK
                                    have d24 := Reg.dep hde 24 rfl
                                    have x144 : a.tmps[144]? = some (.slice (some ⟨g, f, none⟩) z C) := ev.got hR.1 24 144 _ rfl rfl d24
                                    clear hde ev hd
                                    go_simp
                                    exact hK _ _ ⟨hR.1.step (.inr rfl), hR.2⟩
                                  refine Reg.Steps.cons (k' := 27) rfl ?_ ?_
                                  · intro D vals a W hR hd hde ev K' hK
                                    have d25 := Reg.dep hde 25 rfl
                                    have x145 : a.tmps[145]? = some (.pointer (some ⟨g, f + 23, none⟩)) := ev.got hR.1 25 145 _ rfl rfl d25
                                    obtain ⟨q7, q15, q23⟩ := KEEPH.out W (HBYW.out.on hR.2.bel)
                                    clear hde ev hd
                                    go_simp
                                    exact hK _ _ ⟨hR.1.step (.inr rfl), hR.2⟩
                                  refine Reg.Steps.cons (k' := 28) rfl ?_ ?_
                                  · intro D vals a W hR hd hde ev K' hK
                                    have d26 := Reg.dep hde 26 rfl
                                    have x146 : a.tmps[146]? = some (.int .u8 (nc : Int)) := ev.got hR.1 26 146 _ rfl rfl d26
                                    clear hde ev hd
                                    go_simp
                                    exact hK _ _ ⟨hR.1.step (.inr rfl), hR.2⟩
                                  refine Reg.Steps.cons (k' := 29) rfl ?_ ?_
                                  · intro D vals a W hR hd hde ev K' hK
                                    have d27 := Reg.dep hde 27 rfl
                                    have x147 : a.tmps[147]? = some (.int .u64 (nc : Int)) := ev.got hR.1 27 147 _ rfl rfl d27
                                    clear hde ev hd
                                    go_simp
                                    exact hK _ _ ⟨hR.1.step (.inr rfl), hR.2⟩
                                  refine Reg.Steps.cons (k' := 30) rfl ?_ ?_
                                  · intro D vals a W hR hd hde ev K' hK
                                    have d23 := Reg.dep hde 23 rfl
                                    have x143 : a.tmps[143]? = some (.int .u64 (getN X (f + 16) 7 : Nat)) := ev.got hR.1 23 143 _ rfl rfl d23
                                    have d28 := Reg.dep hde 28 rfl
                                    have x148 : a.tmps[148]? = some (.int .u64 ((nc : Int) * 72057594037927936)) := ev.got hR.1 28 148 _ rfl rfl d28
                                    clear hde ev hd
                                    go_simp
                                    exact hK _ _ ⟨hR.1.step (.inr rfl), hR.2⟩
                                  refine Reg.Steps.cons (k' := 31) rfl ?_ ?_
                                  · intro D vals a W hR hd hde ev K' hK
                                    have x12 : a.tmps[12]? = some (.slice (some ⟨g, f, none⟩) z C) := (ev.out 12 (by kernel_rfl)).trans rfl
                                    clear hde ev hd
                                    go_simp
                                    exact hK _ _ ⟨hR.1.step (.inr rfl), hR.2⟩
                                  refine Reg.Steps.cons (k' := 32) rfl ?_ ?_
                                  · intro D vals a W hR hd hde ev K' hK
                                    have d30 := Reg.dep hde 30 rfl
                                    have x150 : a.tmps[150]? = some (.slice (some ⟨g, f, none⟩) z C) := ev.got hR.1 30 150 _ rfl rfl d30
                                    clear hde ev hd
                                    go_simp
                                    exact hK _ _ ⟨hR.1.step (.inr rfl), hR.2⟩
                                  refine Reg.Steps.cons (k' := 33) rfl ?_ ?_
                                  · intro D vals a W hR hd hde ev K' hK
                                    have d31 := Reg.dep hde 31 rfl
                                    have x151 : a.tmps[151]? = some (.slice (some ⟨g, f + 24, none⟩) 4 (C - 24)) := ev.got hR.1 31 151 _ rfl rfl d31
                                    have CC := Lib.hid (G4.out W (HBYW.out.on hR.2.bel))
                                    have HR1 := Lib.hid hR
                                    clear hde ev hd hR
                                    go_simp
                                    refine CC.out.mono ?_
                                    rintro e W1 ⟨rfl, rfl⟩
                                    exact hK _ _ ⟨HR1.out.1.step (.inr rfl), HR1.out.2⟩
                                  refine Reg.Steps.cons (k' := 34) rfl ?_ ?_
                                  · intro D vals a W hR hd hde ev K' hK
                                    have d32 := Reg.dep hde 32 rfl
                                    have x152 : a.tmps[152]? = some (.int .i64 (getN X (f + 24) 4 : Nat)) := ev.got hR.1 32 152 _ rfl rfl d32
                                    clear hde ev hd
                                    go_simp
                                    exact hK _ _ ⟨hR.1.step (.inr rfl), hR.2⟩
                                  refine Reg.Steps.cons (k' := 35) rfl ?_ ?_
                                  · intro D vals a W hR hd hde ev K' hK
                                    have x12 : a.tmps[12]? = some (.slice (some ⟨g, f, none⟩) z C) := (ev.out 12 (by kernel_rfl)).trans rfl
                                    clear hde ev hd
                                    go_simp
                                    exact hK _ _ ⟨hR.1.step (.inr rfl), hR.2⟩
                                  refine Reg.Steps.cons (k' := 36) rfl ?_ ?_
                                  · intro D vals a W hR hd hde ev K' hK
                                    have d34 := Reg.dep hde 34 rfl
                                    have x154 : a.tmps[154]? = some (.slice (some ⟨g, f, none⟩) z C) := ev.got hR.1 34 154 _ rfl rfl d34
                                    clear hde ev hd
                                    go_simp
                                    exact hK _ _ ⟨hR.1.step (.inr rfl), hR.2⟩
                                  refine Reg.Steps.cons (k' := 37) rfl ?_ ?_
                                  · intro D vals a W hR hd hde ev K' hK
                                    have d35 := Reg.dep hde 35 rfl
                                    have x155 : a.tmps[155]? = some (.slice (some ⟨g, f + 28, none⟩) 2 (C - 28)) := ev.got hR.1 35 155 _ rfl rfl d35
                                    have CC := Lib.hid (G5.out W (HBYW.out.on hR.2.bel))
                                    have HR1 := Lib.hid hR
                                    clear hde ev hd hR
                                    go_simp
                                    refine CC.out.mono ?_
                                    rintro e W1 ⟨rfl, rfl⟩
                                    exact hK _ _ ⟨HR1.out.1.step (.inr rfl), HR1.out.2⟩
                                  refine Reg.Steps.cons (k' := 38) rfl ?_ ?_
                                  · intro D vals a W hR hd hde ev K' hK
                                    have d36 := Reg.dep hde 36 rfl
                                    have x156 : a.tmps[156]? = some (.int .i64 (getN X (f + 28) 2 : Nat)) := ev.got hR.1 36 156 _ rfl rfl d36
                                    clear hde ev hd
                                    go_simp
                                    exact hK _ _ ⟨hR.1.step (.inr rfl), hR.2⟩
                                  refine Reg.Steps.cons (k' := 39) rfl ?_ ?_
                                  · intro D vals a W hR hd hde ev K' hK
                                    have d33 := Reg.dep hde 33 rfl
                                    have x153 : a.tmps[153]? = some (.int .i64 ((getN X (f + 24) 4 : Nat) - 1)) := ev.got hR.1 33 153 _ rfl rfl d33
                                    have d37 := Reg.dep hde 37 rfl
                                    have x157 : a.tmps[157]? = some (.int .i64 ((getN X (f + 28) 2 : Nat) - 1)) := ev.got hR.1 37 157 _ rfl rfl d37
                                    clear hde ev hd
                                    go_simp
                                    exact hK _ _ ⟨hR.1.step (.inr rfl), hR.2⟩
                                  refine Reg.Steps.cons (k' := 40) rfl ?_ ?_
                                  · intro D vals a W hR hd hde ev K' hK
                                    have x12 : a.tmps[12]? = some (.slice (some ⟨g, f, none⟩) z C) := (ev.out 12 (by kernel_rfl)).trans rfl
                                    clear hde ev hd
                                    go_simp
                                    exact hK _ _ ⟨hR.1.step (.inr rfl), hR.2⟩
                                  refine Reg.Steps.cons (k' := 41) rfl ?_ ?_
                                  · intro D vals a W hR hd hde ev K' hK
                                    have d39 := Reg.dep hde 39 rfl
                                    have x159 : a.tmps[159]? = some (.slice (some ⟨g, f, none⟩) z C) := ev.got hR.1 39 159 _ rfl rfl d39
                                    clear hde ev hd
                                    go_simp
                                    exact hK _ _ ⟨hR.1.step (.inr rfl), hR.2⟩
                                  refine Reg.Steps.cons (k' := 42) rfl ?_ ?_
                                  · intro D vals a W hR hd hde ev K' hK
                                    have d40 := Reg.dep hde 40 rfl
                                    have x160 : a.tmps[160]? = some (.slice (some ⟨g, f + 30, none⟩) (z - 30) (C - 30)) := ev.got hR.1 40 160 _ rfl rfl d40
                                    have CC := Lib.hid (CCP2.out W (HBYW.out.on hR.2.bel))
                                    have h := hR.2
                                    rw [hd] at h
                                    have HR1 := Lib.hid hR.1
                                    have HT := Lib.hid h
                                    clear hde ev hd hR h
                                    go_simp
                                    refine CC.out.mono ?_
                                    rintro e W1 ⟨v8, rfl, ho8, hb8, _⟩
                                    obtain ⟨A8, c8, e8, _⟩ := Sl.of_own ho8
                                    subst e8
                                    exact hK _ _ ⟨HR1.out.step (.inl rfl), HT.out.copy ho8 hb8⟩
                                  refine Reg.Steps.cons (k' := 43) rfl ?_ ?_
                                  · intro D vals a W hR hd hde ev K' hK
                                    have d9 := Reg.dep hde 9 rfl
                                    have x129 : a.tmps[129]? = some (.int .u64 (getN X f 8 : Nat)) := ev.got hR.1 9 129 _ rfl rfl d9
                                    have d19 := Reg.dep hde 19 rfl
                                    have x139 : a.tmps[139]? = some (.int .u64 (getN X (f + 8) 8 : Nat)) := ev.got hR.1 19 139 _ rfl rfl d19
                                    have d29 := Reg.dep hde 29 rfl
                                    have x149 : a.tmps[149]? = some (.int .u64 (getN X (f + 16) 8 : Nat)) := ev.got hR.1 29 149 _ rfl rfl d29
                                    have d38 := Reg.dep hde 38 rfl
                                    have x158 : a.tmps[158]? = some (.agg #[.int .i64 ((getN X (f + 24) 4 : Nat) - 1), .int .i64 ((getN X (f + 28) 2 : Nat) - 1)]) := ev.got hR.1 38 158 _ rfl rfl d38
                                    have d41 := Reg.dep hde 41 rfl
                                    have x161 : a.tmps[161]? = some (vals 41) := ev.done 41 161 rfl d41
                                    have h := hR.2
                                    rw [hd, d41] at h
                                    obtain ⟨A8, c8, e8, hm⟩ := h.build
                                    rw [HBX.out] at hm
                                    rw [e8] at x161
                                    have HR1 := Lib.hid hR.1
                                    have HT := Lib.hid hm
                                    have HD41 := Lib.hid d41
                                    clear hde ev hd hR h hm e8 d41
                                    go_simp
                                    exact hK _ _ ⟨HR1.out.step (.inl rfl), by show TM wr _ _ _ _ (D 41) true (D 43) (D 44) (vals 41) _ (vals 43); rw [HD41.out, HBX.out]; exact HT.out⟩
                                  refine Reg.Steps.cons (k' := 44) rfl ?_ ?_
                                  · intro D vals a W hR hd hde ev K' hK
                                    have h := hR.2
                                    rw [hd] at h
                                    have HR1 := Lib.hid hR.1
                                    have HT := Lib.hid (h.alloc_ (cs := #[.int .u64 0, .int .u64 0, .int .u64 0, .int .i64 0, .int .i64 0, .slice none 0 0]) rfl)
                                    clear hde ev hd hR h
                                    go_simp
                                    exact hK _ _ ⟨HR1.out.step (.inl rfl), HT.out⟩
                                  refine Reg.Steps.cons (k' := 45) rfl ?_ ?_
                                  · intro D vals a W hR hd hde ev K' hK
                                    have dA := Reg.dep hde 42 rfl
                                    have dB := Reg.dep hde 43 rfl
                                    have h := hR.2
                                    have dC := h.o1 dA
                                    rw [hd, dA, dB, dC] at h
                                    obtain ⟨A8, c8, T, cs, e1, e2, hb, hs, hm⟩ := h.store (fun A c => by rw [HBX.out]; rfl)
                                    have xA : a.tmps[162]? = some _ := ev.done 42 162 rfl dA
                                    have xB : a.tmps[13]? = some _ := ev.done 43 13 rfl dB
                                    rw [e1] at xA
                                    rw [e2] at xB
                                    refine step_store_row rfl _ _ _ rfl T _ (Reg.eval_of xB) (Reg.eval_of xA) 33 _ hb (by rw [HBX.out]; kernel_rfl) (by rw [hs, HBX.out]; rfl) (by rw [HBX.out]; simp [Value.oneCell']) (hK undef _ ⟨hR.1.step (.inl rfl), ?_⟩)
                                    show TM wr _ _ _ _ (D 41) (D 42) (D 43) true (vals 41) (vals 42) (vals 43)
                                    rw [dA, dB, dC]
                                    exact hm
                                  exact Reg.Steps.nil
                                · intro D vals W2 hD hR
                                  have hm := hR.2
                                  rw [hD 41 (by decide), hD 42 (by decide), hD 43 (by decide), hD 44 (by decide)] at hm
                                  clear hR hD
                                  obtain ⟨A8, c8, e41, ho⟩ := hm.c1 rfl
                                  obtain ⟨T, cs, e43, hT, hbk, hsz, hcs⟩ := hm.c3 rfl
                                  have hcs' := hcs rfl A8 c8 e41
                                  rw [hcs'] at hbk
                                  have HFIN := Lib.hid (show LS w W2 g m0 R X st k (fun i => decide (i < 4 + 4 * n) || mkf (Lx X) (k + 1) i) F E A cc ∧ Blk W2 T 33 (BX A8 c8) ∧ OwnB W2 wr.heap.size (.slice A8 (z - 30) c8) (z - 30) (u8s (sub X (f + 30) (z - 30))) from ⟨HQ.out.below hm.bel, hbk, ho⟩)
                                  clear hm ho hT hbk hsz hcs hcs' e41 cs
                                  simp only [Reg.fin, Act.put, List.setIfInBounds_toArray, List.set_cons_zero, List.set_cons_succ, e43]
                                  clear e43
                                  generalize vals 0 = zz0; generalize vals 1 = zz1; generalize vals 2 = zz2; generalize vals 3 = zz3; generalize vals 4 = zz4; generalize vals 5 = zz5; generalize vals 6 = zz6; generalize vals 7 = zz7; generalize vals 8 = zz8; generalize vals 9 = zz9; generalize vals 10 = zz10; generalize vals 11 = zz11; generalize vals 12 = zz12; generalize vals 13 = zz13; generalize vals 14 = zz14; generalize vals 15 = zz15; generalize vals 16 = zz16; generalize vals 17 = zz17; generalize vals 18 = zz18; generalize vals 19 = zz19; generalize vals 20 = zz20; generalize vals 21 = zz21; generalize vals 22 = zz22; generalize vals 23 = zz23; generalize vals 24 = zz24; generalize vals 25 = zz25; generalize vals 26 = zz26; generalize vals 27 = zz27; generalize vals 28 = zz28; generalize vals 29 = zz29; generalize vals 30 = zz30; generalize vals 31 = zz31; generalize vals 32 = zz32; generalize vals 33 = zz33; generalize vals 34 = zz34; generalize vals 35 = zz35; generalize vals 36 = zz36; generalize vals 37 = zz37; generalize vals 38 = zz38; generalize vals 39 = zz39; generalize vals 40 = zz40; generalize vals 41 = zz41; generalize vals 42 = zz42; generalize vals 44 = zz44
                                  clear vals
                                  go_wp2_with fail
                                  go_meet
                                  exact ⟨T, A8, c8, rfl, HFIN.out⟩
                            case rest =>
                              obtain ⟨T, Ad, cd, rfl, hl9, hbk, ho9⟩ := hcut
                              rw [HBX.out] at hbk
                              have HL9 := Lib.hid hl9
                              have HBK := Lib.hid hbk
                              have HO9 := Lib.hid ho9
                              have q0 := hbk.cell 0
                              have q1 := hbk.cell 1
                              have q2 := hbk.cell 2
                              have q3 := hbk.cell 3
                              have q4 := hbk.cell 4
                              have q5 := hbk.cell 5
                              obtain ⟨ok, hok⟩ : ∃ ok, tuOk (getN X f 8) (getN X (f + 8) 8) (getN X (f + 16) 8) ((getN X (f + 24) 4 : Nat) - 1) ((getN X (f + 28) 2 : Nat) - 1) (z - 30) = ok := ⟨_, rfl⟩
                              have HOKT := Lib.hid hok
                              have CR := rright_any (getN X f 8) (getN X (f + 8) 8) (getN X (f + 16) 8) ((getN X (f + 24) 4 : Nat) - 1) ((getN X (f + 28) 2 : Nat) - 1) Ad (z - 30) cd
                              rw [hok] at CR
                              have CR := Lib.hid CR
                              clear hl9 hbk ho9 hok
                              clear p1 p2 p3 p4 p5 p6 p7 p8 p9 pa pb pc pd pe k0 k1 k1' k2 k2' k3 k4 k5 k6 k7 i1 i2 i3 j1 j2 j3 j4 x7 x15 x23
                              go_wp2_with fail
                              refine (CR.out _).mono ?_
                              rintro e w5 ⟨rfl, hb5⟩
                              have HL5 := Lib.hid (HL9.out.below hb5)
                              have HBK5 := Lib.hid (HBK.out.below hb5 HBK.out.lt)
                              have HO5 := Lib.hid (own_keep HO9.out fun g hg => hb5.block g (World.ownsRow.lt HO9.out g hg).2)
                              clear hb5 q0 q1 q2 q3 q4 q5 CR HL9 HBK HO9
                              cases ok
                              · have HB : Hid (¬ LoadOk X) := Lib.hid (HBAD.out (fun ho => by have := (HNB.out ho).2.2.2.2; rw [HOKT.out] at this; cases this))
                                go_wp2_with fail
                                go_ret
                                exact .inr ⟨HB.out, rfl, HL5.out.bel⟩
                              · go_wp2_with fail
                                have hEb : E.length ≤ 127 := by have := HEb.out; omega
                                obtain ⟨V, hV⟩ : ∃ V, V = w5 := ⟨_, rfl⟩
                                rw [← hV] at HL5 HBK5 HO5 ⊢
                                clear hV w5
                                have HM0 : Hid (m0 < wr.heap.size) := Lib.hid HQ.out.mb.lt
                                have HWW : Hid (w.heap.size ≤ wr.heap.size) := Lib.hid HQ.out.bel.size
                                have HLV : Hid (LS w V.drew g m0 R X st k (fun i => decide (i < 4 + 4 * n) || mkf (Lx X) (k + 1) i) (fun x => F x ∨ (Value.slice Ad (z - 30) cd).ownBlock = some x) E A cc) := Lib.hid (HL5.out.drew.more (fun x hx => .inl hx) (fun x hx => by
                                  rcases hx with hx | hx
                                  · exact HL5.out.rf.lt x hx
                                  · exact (World.ownsRow.lt HO5.out x hx).2) (fun hx => by
                                  rcases hx with hx | hx
                                  · exact HL5.out.fm hx
                                  · have := (World.ownsRow.lt HO5.out m0 hx).1; have := HM0.out; omega) (fun x hx => by
                                  rcases hx with hx | hx
                                  · exact HL5.out.fB x hx
                                  · have := (World.ownsRow.lt HO5.out x hx).1; have := HWW.out; omega))
                                have HLV1 := Lib.hid (HLV.out.below (bel_alloc V.drew (.cells #[.bool true, .int .u64 (getN X f 8 : Nat), .int .u64 (getN X (f + 8) 8 : Nat), .int .u64 (getN X (f + 16) 8 : Nat), .int .i64 ((getN X (f + 24) 4 : Nat) - 1), .int .i64 ((getN X (f + 28) 2 : Nat) - 1), .slice Ad (z - 30) cd, .int .i64 (f : Int)] 122)))
                                have HCR : Hid (∀ W, (W = V.drew ∨ W = (V.drew.alloc (.cells #[.bool true, .int .u64 (getN X f 8 : Nat), .int .u64 (getN X (f + 8) 8 : Nat), .int .u64 (getN X (f + 16) 8 : Nat), .int .i64 ((getN X (f + 24) 4 : Nat) - 1), .int .i64 ((getN X (f + 28) 2 : Nat) - 1), .slice Ad (z - 30) cd, .int .i64 (f : Int)] 122))) → W.cell? ⟨R, 0, none⟩ = some (.slice A E.length cc)) := Lib.hid (fun W h => by
                                  rcases h with rfl | rfl
                                  · exact HLV.out.rf.blk.cell 0
                                  · exact HLV1.out.rf.blk.cell 0)
                                have HCT : Hid (∀ W, W = V.drew → W.cell? ⟨T, 0, none⟩ = some (.int .u64 (getN X f 8 : Nat)) ∧ W.cell? ⟨T, 1, none⟩ = some (.int .u64 (getN X (f + 8) 8 : Nat)) ∧ W.cell? ⟨T, 2, none⟩ = some (.int .u64 (getN X (f + 16) 8 : Nat)) ∧ W.cell? ⟨T, 3, none⟩ = some (.int .i64 ((getN X (f + 24) 4 : Nat) - 1)) ∧ W.cell? ⟨T, 4, none⟩ = some (.int .i64 ((getN X (f + 28) 2 : Nat) - 1)) ∧ W.cell? ⟨T, 5, none⟩ = some (.slice Ad (z - 30) cd)) := Lib.hid (fun W h => by
                                  subst h
                                  have hb : Blk V.drew T _ _ := HBK5.out
                                  exact ⟨hb.cell 0, hb.cell 1, hb.cell 2, hb.cell 3, hb.cell 4, hb.cell 5⟩)
                                have HOWN : Hid ((V.drew.alloc (.cells #[.bool true, .int .u64 (getN X f 8 : Nat), .int .u64 (getN X (f + 8) 8 : Nat), .int .u64 (getN X (f + 16) 8 : Nat), .int .i64 ((getN X (f + 24) 4 : Nat) - 1), .int .i64 ((getN X (f + 28) 2 : Nat) - 1), .slice Ad (z - 30) cd, .int .i64 (f : Int)] 122)).ownsRow 0 122 8 (.slice A E.length cc) E.length (ents E)) := Lib.hid HLV1.out.rf.own
                                have HONE : Hid (∀ u ∈ ents [(some (verAt X f z, f), .slice Ad (z - 30) cd)], u.oneCell' = true) := Lib.hid (by
                                  intro u hu
                                  rw [show ents [(some (verAt X f z, f), .slice Ad (z - 30) cd)] = (#[.bool true, .int .u64 (getN X f 8 : Nat), .int .u64 (getN X (f + 8) 8 : Nat), .int .u64 (getN X (f + 16) 8 : Nat), .int .i64 ((getN X (f + 24) 4 : Nat) - 1), .int .i64 ((getN X (f + 28) 2 : Nat) - 1), .slice Ad (z - 30) cd, .int .i64 (f : Int)]).toList from rfl] at hu
                                  simp at hu
                                  rcases hu with rfl | rfl | rfl | rfl | rfl | rfl | rfl | rfl <;> rfl)
                                have HRC : Hid (∀ W (A1 : Option Addr) (c1 : Nat), Kin (V.drew.alloc (.cells #[.bool true, .int .u64 (getN X f 8 : Nat), .int .u64 (getN X (f + 8) 8 : Nat), .int .u64 (getN X (f + 16) 8 : Nat), .int .i64 ((getN X (f + 24) 4 : Nat) - 1), .int .i64 ((getN X (f + 28) 2 : Nat) - 1), .slice Ad (z - 30) cd, .int .i64 (f : Int)] 122)) W (.slice A E.length cc) (.slice A1 (E.length + 1) c1) → W.cell? ⟨R, 0, none⟩ = some (.slice A E.length cc) ∧ W.frozen? ⟨R, 0, none⟩ = false) := Lib.hid (fun W A1 c1 hk => by
                                  have hb : Blk W R 45 #[.slice A E.length cc, .int .i64 st] := (hk.1.block R HLV1.out.rf.blk.lt (own_blk_ne HLV1.out.rf.own HLV1.out.rf.blk (by decide)).symm).trans HLV1.out.rf.blk
                                  exact ⟨hb.cell 0, hb.frozen 0⟩)
                                refine Reg.wp_region_inv_lit (by kernel_rfl) (by kernel_rfl) (fun D vals W => Reg.Fx (fun k9 => ([some (.pointer (some ⟨R, 0, none⟩)), some (.pointer (some ⟨R, 0, none⟩)), some (.pointer (some ⟨R, 0, none⟩)), some (.pointer (some ⟨R, 0, none⟩)), some (.slice A E.length cc), some (.agg #[.int .u64 (getN X f 8 : Nat), .int .u64 (getN X (f + 8) 8 : Nat), .int .u64 (getN X (f + 16) 8 : Nat), .int .i64 ((getN X (f + 24) 4 : Nat) - 1), .int .i64 ((getN X (f + 28) 2 : Nat) - 1), .slice Ad (z - 30) cd]), some (.int .i64 (f : Int)), some (.agg #[.bool true, .int .u64 (getN X f 8 : Nat), .int .u64 (getN X (f + 8) 8 : Nat), .int .u64 (getN X (f + 16) 8 : Nat), .int .i64 ((getN X (f + 24) 4 : Nat) - 1), .int .i64 ((getN X (f + 28) 2 : Nat) - 1), .slice Ad (z - 30) cd, .int .i64 (f : Int)]), none, none, some (.pointer (some ⟨R, 0, none⟩)), some (.pointer (some ⟨R, 0, none⟩)), none] : List (Option Value)).getD k9 none) D vals ∧ (D 8 = false → D 9 = false → W = V.drew) ∧ (D 8 = true → D 9 = false → W = (V.drew.alloc (.cells #[.bool true, .int .u64 (getN X f 8 : Nat), .int .u64 (getN X (f + 8) 8 : Nat), .int .u64 (getN X (f + 16) 8 : Nat), .int .i64 ((getN X (f + 24) 4 : Nat) - 1), .int .i64 ((getN X (f + 28) 2 : Nat) - 1), .slice Ad (z - 30) cd, .int .i64 (f : Int)] 122)) ∧ vals 8 = .slice (some ⟨V.drew.heap.size, 0, none⟩) 1 1) ∧ (D 9 = true → D 12 = false → ∃ A1 c1, vals 9 = .slice A1 (E.length + 1) c1 ∧ W.ownsRow 0 122 8 (.slice A1 (E.length + 1) c1) (E.length + 1) (ents E ++ ents [(some (verAt X f z, f), .slice Ad (z - 30) cd)]) ∧ Kin (V.drew.alloc (.cells #[.bool true, .int .u64 (getN X f 8 : Nat), .int .u64 (getN X (f + 8) 8 : Nat), .int .u64 (getN X (f + 16) 8 : Nat), .int .i64 ((getN X (f + 24) 4 : Nat) - 1), .int .i64 ((getN X (f + 28) 2 : Nat) - 1), .slice Ad (z - 30) cd, .int .i64 (f : Int)] 122)) W (.slice A E.length cc) (.slice A1 (E.length + 1) c1)) ∧ (D 12 = true → ∃ w9 A1 c1, w9.ownsRow 0 122 8 (.slice A1 (E.length + 1) c1) (E.length + 1) (ents E ++ ents [(some (verAt X f z, f), .slice Ad (z - 30) cd)]) ∧ Kin (V.drew.alloc (.cells #[.bool true, .int .u64 (getN X f 8 : Nat), .int .u64 (getN X (f + 8) 8 : Nat), .int .u64 (getN X (f + 16) 8 : Nat), .int .i64 ((getN X (f + 24) 4 : Nat) - 1), .int .i64 ((getN X (f + 28) 2 : Nat) - 1), .slice Ad (z - 30) cd, .int .i64 (f : Int)] 122)) w9 (.slice A E.length cc) (.slice A1 (E.length + 1) c1) ∧ W = w9.setCell ⟨R, 0, none⟩ (.slice A1 (E.length + 1) c1)) ∧ (D 9 = true → D 8 = true ∧ D 4 = true) ∧ (D 8 = true → D 7 = true) ∧ (D 7 = true → D 5 = true) ∧ (D 12 = true → D 9 = true)) ⟨Reg.Fx.init _ _, fun _ _ => rfl, nofun, nofun, nofun, nofun, nofun, nofun, nofun⟩ (fun Q' => ?_) ?_
                                · refine Reg.Steps.cons (k' := 1) rfl ?_ ?_
                                  · intro D vals a W hR hd hde ev K' hK
                                    have x5 : a.tmps[5]? = some (.pointer (some ⟨R, 0, none⟩)) := (ev.out 5 (by kernel_rfl)).trans rfl
                                    clear hde ev hd
                                    go_simp
                                    exact hK _ _ ⟨hR.1.step (.inr rfl), hR.2⟩
                                  refine Reg.Steps.cons (k' := 2) rfl ?_ ?_
                                  · intro D vals a W hR hd hde ev K' hK
                                    have x5 : a.tmps[5]? = some (.pointer (some ⟨R, 0, none⟩)) := (ev.out 5 (by kernel_rfl)).trans rfl
                                    clear hde ev hd
                                    go_simp
                                    exact hK _ _ ⟨hR.1.step (.inr rfl), hR.2⟩
                                  refine Reg.Steps.cons (k' := 3) rfl ?_ ?_
                                  · intro D vals a W hR hd hde ev K' hK
                                    have d1 := Reg.dep hde 1 rfl
                                    have x167 : a.tmps[167]? = some (.pointer (some ⟨R, 0, none⟩)) := ev.got hR.1 1 167 _ rfl rfl d1
                                    clear hde ev hd
                                    go_simp
                                    exact hK _ _ ⟨hR.1.step (.inr rfl), hR.2⟩
                                  refine Reg.Steps.cons (k' := 4) rfl ?_ ?_
                                  · intro D vals a W hR hd hde ev K' hK
                                    have d2 := Reg.dep hde 2 rfl
                                    have x168 : a.tmps[168]? = some (.pointer (some ⟨R, 0, none⟩)) := ev.got hR.1 2 168 _ rfl rfl d2
                                    clear hde ev hd
                                    go_simp
                                    exact hK _ _ ⟨hR.1.step (.inr rfl), hR.2⟩
                                  refine Reg.Steps.cons (k' := 5) rfl ?_ ?_
                                  · intro D vals a W hR hd hde ev K' hK
                                    have d3 := Reg.dep hde 3 rfl
                                    have x169 : a.tmps[169]? = some (.pointer (some ⟨R, 0, none⟩)) := ev.got hR.1 3 169 _ rfl rfl d3
                                    have h9 : D 9 = false := by cases h : D 9 with
                                      | false => rfl
                                      | true => exact absurd ((hR.2.2.2.2.2.1 h).2) (by rw [hd]; simp)
                                    have q := HCR.out W (by cases h8 : D 8 with
                                      | false => exact .inl (hR.2.1 h8 h9)
                                      | true => exact .inr (hR.2.2.1 h8 h9).1)
                                    clear h9
                                    clear hde ev hd
                                    go_simp
                                    exact hK _ _ ⟨hR.1.step (.inr rfl), hR.2.1, hR.2.2.1, hR.2.2.2.1, hR.2.2.2.2.1, fun h => ⟨(hR.2.2.2.2.2.1 h).1, rfl⟩, hR.2.2.2.2.2.2.1, hR.2.2.2.2.2.2.2.1, hR.2.2.2.2.2.2.2.2⟩
                                  refine Reg.Steps.cons (k' := 6) rfl ?_ ?_
                                  · intro D vals a W hR hd hde ev K' hK
                                    have x13 : a.tmps[13]? = some (.pointer (some ⟨T, 0, none⟩)) := (ev.out 13 (by kernel_rfl)).trans rfl
                                    have h7 : D 7 = false := by cases h : D 7 with
                                      | false => rfl
                                      | true => exact absurd (hR.2.2.2.2.2.2.2.1 h) (by rw [hd]; simp)
                                    have h8 : D 8 = false := by cases h : D 8 with
                                      | false => rfl
                                      | true => exact absurd (hR.2.2.2.2.2.2.1 h) (by rw [h7]; simp)
                                    have h9 : D 9 = false := by cases h : D 9 with
                                      | false => rfl
                                      | true => exact absurd ((hR.2.2.2.2.2.1 h).1) (by rw [h8]; simp)
                                    obtain ⟨q0, q1, q2, q3, q4, q5⟩ := HCT.out W (hR.2.1 h8 h9)
                                    clear h7 h8 h9
                                    clear hde ev hd
                                    go_simp
                                    exact hK _ _ ⟨hR.1.step (.inr rfl), hR.2.1, hR.2.2.1, hR.2.2.2.1, hR.2.2.2.2.1, hR.2.2.2.2.2.1, hR.2.2.2.2.2.2.1, fun _ => rfl, hR.2.2.2.2.2.2.2.2⟩
                                  refine Reg.Steps.cons (k' := 7) rfl ?_ ?_
                                  · intro D vals a W hR hd hde ev K' hK
                                    have x9 : a.tmps[9]? = some (.int .i64 (f : Int)) := (ev.out 9 (by kernel_rfl)).trans rfl
                                    clear hde ev hd
                                    go_simp
                                    exact hK _ _ ⟨hR.1.step (.inr rfl), hR.2⟩
                                  refine Reg.Steps.cons (k' := 8) rfl ?_ ?_
                                  · intro D vals a W hR hd hde ev K' hK
                                    have d5 := Reg.dep hde 5 rfl
                                    have x171 : a.tmps[171]? = some (.agg #[.int .u64 (getN X f 8 : Nat), .int .u64 (getN X (f + 8) 8 : Nat), .int .u64 (getN X (f + 16) 8 : Nat), .int .i64 ((getN X (f + 24) 4 : Nat) - 1), .int .i64 ((getN X (f + 28) 2 : Nat) - 1), .slice Ad (z - 30) cd]) := ev.got hR.1 5 171 _ rfl rfl d5
                                    have d6 := Reg.dep hde 6 rfl
                                    have x172 : a.tmps[172]? = some (.int .i64 (f : Int)) := ev.got hR.1 6 172 _ rfl rfl d6
                                    have HD5 := Lib.hid d5
                                    clear hde ev hd
                                    go_simp
                                    exact hK _ _ ⟨hR.1.step (.inr rfl), hR.2.1, hR.2.2.1, hR.2.2.2.1, hR.2.2.2.2.1, hR.2.2.2.2.2.1, fun _ => rfl, fun _ => HD5.out, hR.2.2.2.2.2.2.2.2⟩
                                  refine Reg.Steps.cons (k' := 9) rfl ?_ ?_
                                  · intro D vals a W hR hd hde ev K' hK
                                    have d7 := Reg.dep hde 7 rfl
                                    have x173 : a.tmps[173]? = some (.agg #[.bool true, .int .u64 (getN X f 8 : Nat), .int .u64 (getN X (f + 8) 8 : Nat), .int .u64 (getN X (f + 16) 8 : Nat), .int .i64 ((getN X (f + 24) 4 : Nat) - 1), .int .i64 ((getN X (f + 28) 2 : Nat) - 1), .slice Ad (z - 30) cd, .int .i64 (f : Int)]) := ev.got hR.1 7 173 _ rfl rfl d7
                                    have h9 : D 9 = false := by cases h : D 9 with
                                      | false => rfl
                                      | true => exact absurd ((hR.2.2.2.2.2.1 h).1) (by rw [hd]; simp)
                                    have hW := hR.2.1 hd h9
                                    have HW := Lib.hid hW
                                    have H9 := Lib.hid h9
                                    have HD7 := Lib.hid d7
                                    have HR1 := Lib.hid hR
                                    clear hde ev hd hR hW h9
                                    go_simp
                                    exact hK _ _ ⟨HR1.out.1.step (.inl rfl), fun h => absurd h (by rw [Reg.upd_self]; simp), fun _ _ => ⟨by rw [HW.out], by rw [HW.out]; rfl⟩, fun h => absurd (show D 9 = true from h) (by rw [H9.out]; simp), fun h => absurd (HR1.out.2.2.2.2.2.2.2.2 (show D 12 = true from h)) (by rw [H9.out]; simp), fun h => absurd (show D 9 = true from h) (by rw [H9.out]; simp), fun _ => HD7.out, HR1.out.2.2.2.2.2.2.2⟩
                                  refine Reg.Steps.cons (k' := 10) rfl ?_ ?_
                                  · intro D vals a W hR hd hde ev K' hK
                                    have d4 := Reg.dep hde 4 rfl
                                    have x170 : a.tmps[170]? = some (.slice A E.length cc) := ev.got hR.1 4 170 _ rfl rfl d4
                                    have d8 := Reg.dep hde 8 rfl
                                    obtain ⟨hW, e8⟩ := hR.2.2.1 d8 hd
                                    have x174 : a.tmps[174]? = some (vals 8) := ev.done 8 174 rfl d8
                                    rw [e8] at x174
                                    obtain ⟨i, hi, hz0, hz1, hz2⟩ := info_part infoSlot
                                    rw [if_pos (Reg.wanted_none rfl)]
                                    have HR1 := Lib.hid hR
                                    have HD4 := Lib.hid d4
                                    have HD8 := Lib.hid d8
                                    subst hW
                                    refine wp_append_mem _ _ _ _ rfl 0 122 i _ 8 80 Try.underlying43 hi hz0 hz1 hz2 rfl (by omega) _ E.length _ (Reg.eval_of x170) HOWN.out _ _ 1 (ents [(some (verAt X f z, f), .slice Ad (z - 30) cd)]) (Reg.eval_of x174) (lies_lit V.drew _ _ 8 1 rfl) HONE.out (by have := hEb; unfold maxLen; omega) (by have := hEb; omega) (Nat.zero_le _) ?_
                                    intro v7 W9 ho7 hk7
                                    obtain ⟨A1, c1, e1, _⟩ := Sl.of_own ho7
                                    subst e1
                                    have H9 := Lib.hid hd
                                    refine hK _ W9 ⟨HR1.out.1.step (.inl rfl), fun _ h => absurd h (by rw [Reg.upd_self]; simp), fun _ h => absurd h (by rw [Reg.upd_self]; simp), fun _ _ => ⟨A1, c1, rfl, ho7, hk7⟩, fun h => ?_, fun _ => ⟨HD8.out, HD4.out⟩, HR1.out.2.2.2.2.2.2.1, HR1.out.2.2.2.2.2.2.2.1, fun _ => Reg.upd_self _ _⟩
                                    exact absurd (HR1.out.2.2.2.2.2.2.2.2 (show D 12 = true from h)) (by rw [H9.out]; simp)
                                  refine Reg.Steps.cons (k' := 11) rfl ?_ ?_
                                  · intro D vals a W hR hd hde ev K' hK
                                    have d0 := Reg.dep hde 0 rfl
                                    have x166 : a.tmps[166]? = some (.pointer (some ⟨R, 0, none⟩)) := ev.got hR.1 0 166 _ rfl rfl d0
                                    clear hde ev hd
                                    go_simp
                                    exact hK _ _ ⟨hR.1.step (.inr rfl), hR.2⟩
                                  refine Reg.Steps.cons (k' := 12) rfl ?_ ?_
                                  · intro D vals a W hR hd hde ev K' hK
                                    have d10 := Reg.dep hde 10 rfl
                                    have x176 : a.tmps[176]? = some (.pointer (some ⟨R, 0, none⟩)) := ev.got hR.1 10 176 _ rfl rfl d10
                                    clear hde ev hd
                                    go_simp
                                    exact hK _ _ ⟨hR.1.step (.inr rfl), hR.2⟩
                                  refine Reg.Steps.cons (k' := 13) rfl ?_ ?_
                                  · intro D vals a W hR hd hde ev K' hK
                                    have d11 := Reg.dep hde 11 rfl
                                    have x177 : a.tmps[177]? = some (.pointer (some ⟨R, 0, none⟩)) := ev.got hR.1 11 177 _ rfl rfl d11
                                    have d9 := Reg.dep hde 9 rfl
                                    obtain ⟨A1, c1, e1, ho, hk9⟩ := hR.2.2.2.1 d9 hd
                                    have x175 : a.tmps[175]? = some (vals 9) := ev.done 9 175 rfl d9
                                    rw [e1] at x175
                                    obtain ⟨q0, f0⟩ := HRC.out W _ _ hk9
                                    have HR1 := Lib.hid hR
                                    have HO := Lib.hid ho
                                    have HK9 := Lib.hid hk9
                                    have HD9 := Lib.hid d9
                                    clear hde ev hd hR ho hk9 e1
                                    go_simp
                                    refine hK undef _ ⟨HR1.out.1.step (.inl rfl), fun h1 h2 => absurd (show D 9 = false from h2) (by rw [HD9.out]; simp), fun h1 h2 => absurd (show D 9 = false from h2) (by rw [HD9.out]; simp), fun _ h => absurd h (by rw [Reg.upd_self]; simp), fun _ => ⟨W, A1, c1, HO.out, HK9.out, rfl⟩, HR1.out.2.2.2.2.2.1, HR1.out.2.2.2.2.2.2.1, HR1.out.2.2.2.2.2.2.2.1, fun _ => HD9.out⟩
                                  exact Reg.Steps.nil
                                · intro D vals W2 hD hR
                                  obtain ⟨w9, A1, c1, hown9, hk9, hW2⟩ := hR.2.2.2.2.1 (hD 12 (by decide))
                                  have HG := Lib.hid (HLV1.out.grow (e := (some (verAt X f z, f), .slice Ad (z - 30) cd)) (fun v f' u hh => by
                                    have h1 := congrArg Prod.fst hh
                                    have h2 := congrArg Prod.snd hh
                                    simp only [Option.some.injEq, Prod.mk.injEq] at h1 h2
                                    obtain ⟨h3, _⟩ := h1
                                    subst h3 h2
                                    have hlen : (verAt X f z).d.length = z - 30 := sub_len (by have := HF2.out; rw [HXL.out]; omega)
                                    refine ⟨?_, fun x hx => .inr hx⟩
                                    rw [hlen]
                                    exact own_mono (World.ownsRow.alloc (show V.drew.ownsRow _ _ _ _ _ _ from HO5.out) _) (Nat.zero_le _)) hown9 hk9 (by
                                    rw [HLG.out, slotAt_some HF.out, HFZ.out.1, HFZ.out.2]))
                                  rw [← hW2] at HG
                                  have HOKK : Hid (okS X k) := Lib.hid (.inr (by
                                    rw [HFZ.out.1, HFZ.out.2, HST.out]
                                    exact ⟨HF2.out.1, HF2.out.2.1, HF2.out.2.2, HFRR.out, HOKT.out⟩))
                                  clear hR hD hown9 hk9 hW2
                                  simp only [Reg.fin, Act.put, List.setIfInBounds_toArray, List.set_cons_zero, List.set_cons_succ]
                                  generalize vals 0 = zz0; generalize vals 1 = zz1; generalize vals 2 = zz2; generalize vals 3 = zz3; generalize vals 4 = zz4; generalize vals 5 = zz5; generalize vals 6 = zz6; generalize vals 7 = zz7; generalize vals 8 = zz8; generalize vals 9 = zz9; generalize vals 10 = zz10; generalize vals 11 = zz11; generalize vals 12 = zz12
                                  clear vals
                                  go_wp2_with fail
                                  go_roundw
                                  case rel => exact ⟨k + 1, _, _, _, _, by omega, by go_num, HOKs.out HOKK.out, HG.out⟩
                                  case measure => simp [intOf]; omega
                      · have g1 : ¬ (z : Int) < 30 := by omega
                        have g2 : ¬ (f : Int) < st := by omega
                        have g3 : (512 : Int) < (f : Int) + z := by omega
                        have HB : Hid (¬ LoadOk X) := Lib.hid (HBAD.out (fun ho => by have := HNB.out ho; omega))
                        clear h3 h4 h5
                        go_wp2_with fail
                        go_ret
                        exact .inr ⟨HB.out, rfl, HL2.out.bel⟩
                    · have g1 : ¬ (z : Int) < 30 := by omega
                      have g2 : (f : Int) < st := by omega
                      have HB : Hid (¬ LoadOk X) := Lib.hid (HBAD.out (fun ho => by have := HNB.out ho; omega))
                      clear h3 h4
                      go_wp2_with fail
                      go_ret
                      exact .inr ⟨HB.out, rfl, HL2.out.bel⟩
                  · have g1 : (z : Int) < 30 := by omega
                    have HB : Hid (¬ LoadOk X) := Lib.hid (HBAD.out (fun ho => by have := HNB.out ho; omega))
                    clear h3
                    go_wp2_with fail
                    go_ret
                    exact .inr ⟨HB.out, rfl, HL2.out.bel⟩
            · obtain rfl : k = n := by omega
              have hkn : ¬ (k : Int) < k := by omega
              have HEb : Hid (E.length = k) := Lib.hid (by
                have h1 : (E.map Prod.fst).length = ((Lx X).take k).length := by rw [HL.out.hE]
                rw [List.length_map, List.length_take, Lx_len, HNN.out] at h1
                omega)
              have HEM : Hid (E.map Prod.fst = Lx X) := Lib.hid (by
                have h1 := HL.out.hE
                rw [List.take_of_length_le (by rw [Lx_len, HNN.out]; exact Nat.le_refl _)] at h1
                exact h1)
              have HTOP : Hid (4 + 4 * k ≤ st ∧ st ≤ 512) := Lib.hid ⟨h2, h1⟩
              clear hlt hk
              go_upto_region 33 with fail
              go_cut [192] from 179 to 192 (fun t wx => ∃ b, t = .bool b ∧ wx = wr ∧ (b = true ↔ ¬ (k = 0 ∨ Mem.frB X (k - 1) = false)))
              case first =>
                rcases Nat.eq_zero_or_pos k with e0 | e0
                · have q0 : ¬ (0 : Int) < k := by omega
                  have HF0 : Hid (false = true ↔ ¬ (k = 0 ∨ Mem.frB X (k - 1) = false)) := Lib.hid (by simp [e0])
                  clear e0
                  go_wp2_with fail
                  all_goals go_meet
                  all_goals exact ⟨false, rfl, rfl, HF0.out⟩
                · obtain ⟨s, hs⟩ : ∃ s, k = s + 1 := ⟨k - 1, by omega⟩
                  have q0 : (0 : Int) < k := by omega
                  have e1 : IntKind.i64.wrap ((k : Int) - 1) = s := by rw [IntKind.wrap_i64]; omega
                  have hsE : s < E.length := by have := HEb.out; omega
                  have q1 : (s : Int) < E.length := by omega
                  have q2 : (0 : Int) ≤ s := by omega
                  have hE5 : (E.length : Int) ≤ 127 := by have := HEb.out; omega
                  obtain ⟨⟨o, u⟩, he⟩ : ∃ e, E[s]? = some e := ⟨_, List.getElem?_eq_getElem hsE⟩
                  have ho : o = slotAt X s := by
                    have h1 := map_at he
                    rw [HEM.out, Lx_get (by rw [HNN.out]; omega)] at h1
                    injection h1 with h1
                    exact h1.symm
                  have x0 := HL.out.rf.blk.cell 0
                  obtain ⟨gE, cur, rfl, _, _, _, _⟩ := HL.out.rf.arr hsE
                  have HK1 : Hid (k - 1 = s ∧ ¬ k = 0) := Lib.hid (by omega)
                  cases hfb : Mem.frB X s with
                  | true =>
                    rw [slotAt_free hfb] at ho
                    subst ho
                    obtain ⟨y0, _⟩ := HL.out.rf.free8 he rfl
                    have HF0 : Hid (¬ (k = 0 ∨ Mem.frB X (k - 1) = false)) := Lib.hid (by rw [HK1.out.1, hfb]; simp [HK1.out.2])
                    clear he e0 hs hsE hfb
                    go_wp2_with fail
                    all_goals go_meet
                    all_goals exact ⟨true, rfl, rfl, fun _ => HF0.out, fun _ => rfl⟩
                  | false =>
                    rw [slotAt_some hfb] at ho
                    subst ho
                    obtain ⟨y0, _⟩ := HL.out.rf.full8 he rfl
                    have HF0 : Hid (false = true ↔ ¬ (k = 0 ∨ Mem.frB X (k - 1) = false)) := Lib.hid (by rw [HK1.out.1, hfb]; simp)
                    clear he e0 hs hsE hfb
                    go_wp2_with fail
                    all_goals go_meet
                    all_goals exact ⟨false, rfl, rfl, HF0.out⟩
              case rest =>
                obtain ⟨b, rfl, hwc, hbb⟩ := hcut
                rw [hwc]
                clear hwc
                cases b with
                | true =>
                  have HNO : Hid (¬ LoadOk X) := Lib.hid (fun h => (hbb.1 rfl) (by have := (rs_split h.rs).2.2; rw [HNN.out] at this; exact this))
                  clear hbb
                  go_wp2_with fail
                  go_ret
                  exact .inr ⟨HNO.out, rfl, HL.out.bel⟩
                | false =>
                  have HRS : Hid (k = 0 ∨ Mem.frB X (k - 1) = false) := Lib.hid (by
                    by_cases h : (k = 0 ∨ Mem.frB X (k - 1) = false)
                    · exact h
                    · cases hbb.2 h)
                  clear hbb
                  go_wp2_with fail
                  go_loopw [195] (fun i wr2 => ∃ j : Nat, j ≤ 512 ∧ i = .int .i64 j ∧ LS w wr2 g m0 R X st k (fun i => decide (i < 4 + 4 * k) || mkf (Lx X) k i) F E A cc ∧ (∀ q, q < j → 4 + 4 * k ≤ q → mkf (Lx X) k q = false → X[q]? = some 0)) (fun i _ => 512 - (intOf i).toNat)
                  case atStart => exact ⟨0, by omega, rfl, HL.out, fun q hq => absurd hq (by omega)⟩
                  case round =>
                    obtain ⟨j, hj, rfl, hlj, hz⟩ := hrel
                    have HLJ := Lib.hid hlj
                    have HZ := Lib.hid hz
                    clear hlj hz HL
                    by_cases hlt : j < 512
                    · have hlt' : (j : Int) < 512 := by omega
                      have hj0 : (0 : Int) ≤ j := by omega
                      have HJ := Lib.hid hlt
                      obtain ⟨y, hy⟩ : ∃ y, X[j]? = some y := ⟨_, List.getElem?_eq_getElem (by rw [HXL.out]; exact hlt)⟩
                      have x0 := HLJ.out.by_.at_ j y hy
                      have x1 := HLJ.out.mb.cell (i := j) (by omega)
                      have HY := Lib.hid hy
                      clear hy hlt hj
                      by_cases hy0 : y = 0
                      · have HN : Hid (∀ q, q < j + 1 → 4 + 4 * k ≤ q → mkf (Lx X) k q = false → X[q]? = some 0) := Lib.hid (fun q h1 h2 h3 => by
                          by_cases e : q = j
                          · rw [e, HY.out, hy0]
                          · exact HZ.out q (by omega) h2 h3)
                        have q1 : ((y.toNat : Int) != 0) = false := by rw [hy0]; rfl
                        have q0 : y.toNat = 0 := by rw [hy0]; rfl
                        clear hy0
                        go_wp2_with fail
                        go_roundw
                        case rel => exact ⟨j + 1, by have := HJ.out; omega, by go_num, HLJ.out, HN.out⟩
                        case measure => have := HJ.out; simp [intOf]; omega
                      · have q0 : ¬ y.toNat = 0 := fun e => hy0 (UInt8.toNat_inj.1 e)
                        have q1 : ((y.toNat : Int) != 0) = true := by
                          rw [bne_iff_ne]
                          omega
                        have HY0 := Lib.hid hy0
                        clear hy0
                        cases hm : (decide (j < 4 + 4 * k) || mkf (Lx X) k j) with
                        | true =>
                          rw [hm] at x1
                          have HN : Hid (∀ q, q < j + 1 → 4 + 4 * k ≤ q → mkf (Lx X) k q = false → X[q]? = some 0) := Lib.hid (fun q h1 h2 h3 => by
                            by_cases e : q = j
                            · subst e
                              rw [h3, decide_eq_false (by omega)] at hm
                              cases hm
                            · exact HZ.out q (by omega) h2 h3)
                          clear hm
                          go_wp2_with fail
                          go_roundw
                          case rel => exact ⟨j + 1, by have := HJ.out; omega, by go_num, HLJ.out, HN.out⟩
                          case measure => have := HJ.out; simp [intOf]; omega
                        | false =>
                          rw [hm] at x1
                          have HNO : Hid (¬ LoadOk X) := Lib.hid (fun h => by
                            rw [Bool.or_eq_false_iff, decide_eq_false_iff_not] at hm
                            have := h.zero j (by rw [HNN.out]; omega) HJ.out (by rw [HNN.out]; exact hm.2)
                            rw [HY.out] at this
                            injection this with this
                            exact HY0.out this)
                          clear hm
                          go_wp2_with fail
                          go_ret
                          exact .inr ⟨HNO.out, rfl, HLJ.out.bel⟩
                    · have hje : j = 512 := by omega
                      have hnl : ¬ (j : Int) < 512 := by omega
                      have HOKX : Hid (LoadOk X) := Lib.hid ⟨HXL.out, rs_join (by rw [HNN.out, HST.out]; exact HTOP.out.1) (by rw [HST.out]; exact HTOP.out.2) (by rw [HNN.out]; exact HRS.out), (by rw [HNN.out]; exact HOK.out), (by rw [HNN.out]; intro i h1 h2 h3; exact HZ.out i (by omega) h1 h3)⟩
                      clear hje hlt hj
                      go_wp2_with fail
                      go_ret
                      exact .inl ⟨HOKX.out, F, R, E, _, cc, rfl, HEM.out, by rw [HST.out]; exact HLJ.out.rf, HLJ.out.fB, HLJ.out.bel⟩
    · have h1' : ¬ (512 : Int) < st := by omega
      have h2' : (st : Int) < 4 + 4 * n := by omega
      have HNO : Hid (¬ LoadOk X) := Lib.hid (fun h => by have := rs_split h.rs; have := HNN.out; have := HST.out; omega)
      clear h1 h2
      go_wp2_with fail
      go_ret
      exact .inr ⟨HNO.out, rfl, HB1.out⟩
  · have h1' : (512 : Int) < st := by omega
    have HNO : Hid (¬ LoadOk X) := Lib.hid (fun h => by have := rs_split h.rs; have := HST.out; omega)
    clear h1
    go_wp2_with fail
    go_ret
    exact .inr ⟨HNO.out, rfl, HB1.out⟩
end Go.Proofs.Ytbkdbnkakjogjaa.Mem
/- PageLoads: its walk. -/
namespace Go.Proofs.Ytbkdbnkakjogjaa.Mem
open Go.RowKit Go.Proofs.Ytbkdbnkakjogjaa.Nums
set_option linter.unusedVariables false
set_option linter.unusedSimpArgs false
set_option maxRecDepth 100000
set_option maxHeartbeats 4000000
theorem rload_short {n c : Nat} {A : Option Addr} {w : World} (hn : ¬ n = 512) : Calls Try.prog 32 #[.slice A n c] w fun e w' => e = .returned (.pointer none) ∧ w = w' := by
  have hq : ¬ (n : Int) = 512 := by omega
  have hq2 : ((n : Int) != 512) = true := by rw [bne_iff_ne]; exact hq
  go_enter Try.func32, Try.ntmps32
  go_wp2_with fail
  go_ret
  exact ⟨rfl, rfl⟩
theorem own_cap {w : World} {B N c : Nat} {A : Option Addr} {X : List UInt8} (h : OwnB w B (.slice A N c) N (u8s X)) (hN : 0 < N) : ∃ g, A = some ⟨g, 0, none⟩ ∧ By w g X ∧ N ≤ c ∧ c ≤ maxLen := by
  have h' := h
  rcases h.2 with ⟨q1, q2⟩ | ⟨g, cap, cur, q1, _⟩
  · omega
  · injection q1 with h1 _ h3
    subst h1
    subst h3
    have hs := Sl.of_own h'
    obtain ⟨A', c', hv, hs⟩ := hs
    injection hv with h1 _ h3
    subst h3
    exact ⟨g, rfl, By.of_own h' hN, hs.le, hs.cap⟩
theorem rload_of {w : World} {B N c : Nat} {A : Option Addr} {X : List UInt8} (h : OwnB w B (.slice A N c) N (u8s X)) (hX : X.length = N) :
    Calls Try.prog 32 #[.slice A N c] w fun e w' => LoadTo w X e w' := by
  by_cases hN : N = 512
  · subst hN
    obtain ⟨g, rfl, hb, hc, hm⟩ := own_cap h (by omega)
    exact rload_any X g c w hb hX hc hm
  · refine (rload_short hN).mono ?_
    rintro e w' ⟨rfl, rfl⟩
    exact .inr ⟨fun hl => hN (by rw [← hX]; exact hl.len), rfl, Below.refl _ _⟩
theorem pload_of {w : World} {N c : Nat} {A : Option Addr} {X : List UInt8} (h : Sl w w.heap.size 1 A N c (u8s X)) (hX : X.length = N) :
    Calls Try.prog 31 #[.slice A N c] w fun e w' => (LoadOk X ∧ ∃ Q, e = .returned (.tuple #[.pointer (some ⟨Q, 0, none⟩), .int .i64 0]) ∧ Pg w' Q X ∧ w.heap.size ≤ Q ∧ Below w.heap.size w w') ∨ (¬ LoadOk X ∧ e = .returned (.tuple #[.pointer none, .int .i64 3]) ∧ Below w.heap.size w w') := by
  by_cases hl : LoadOk X
  · have hN : N = 512 := by rw [← hX]; exact hl.len
    subst hN
    refine (load_has h hl.has.1 hl.has.2).mono ?_
    intro e w' hh
    exact .inl ⟨hl, hh⟩
  · refine (load_not h hl).mono ?_
    intro e w' hh
    exact .inr ⟨hl, hh⟩
theorem loads_walk (w : World) (x : List UInt8) (A : Option Addr) (n c : Nat) (hx : x.length = n) (hxs : Sl w w.heap.size 1 A n c (u8s x)) :
    Calls Try.prog 4 #[.slice A n c] w fun e w' => e = .returned (.bool true) ∧ Below w.heap.size w w' := by
  obtain ⟨X, hX⟩ : ∃ X, x.take 600 = X := ⟨_, rfl⟩
  obtain ⟨N, hN⟩ : ∃ N, min n 600 = N := ⟨_, rfl⟩
  have hxl : X.length = N := by rw [← hX, List.length_take, hx]; omega
  have HXL := Lib.hid hxl
  have hN6 : N ≤ 600 := by omega
  have HC := Lib.hid (fun w1 (h : Sl w1 w1.heap.size 1 A n c (u8s x)) => cut_any x A n c 600 w1 h (by omega))
  rw [hX, hN] at HC
  have HXS := Lib.hid hxs
  clear hX hN hx hxs hxl
  go_enter Try.func4, Try.ntmps4
  go_wp2_with fail
  refine (awake5 _).mono ?_
  rintro e w1 ⟨rfl, hb1⟩
  have HB1 := Lib.hid hb1
  clear hb1
  go_wp2_with fail
  refine (HC.out w1 (HXS.out.on HB1.out)).mono ?_
  rintro e w2 ⟨v, rfl, hown, hb2⟩
  obtain ⟨Av, cv, rfl, _⟩ := Sl.of_own hown
  have HO2 : Hid (OwnB w2 w1.heap.size (.slice Av N cv) N (u8s X)) := Lib.hid hown
  have HB2 := Lib.hid (HB1.out.trans (hb2.mono HB1.out.size))
  clear hown hb2 HB1 HC HXS
  go_wp2_with fail
  refine (copy_any X Av N cv w2 (sl_own HO2.out) (by omega)).mono ?_
  rintro e w3 ⟨v3, rfl, hown3, hb3⟩
  obtain ⟨A3, c3, rfl, _⟩ := Sl.of_own hown3
  have HO3 : Hid (OwnB w3 w2.heap.size (.slice A3 N c3) N (u8s X)) := Lib.hid hown3
  have HO23 : Hid (OwnB w3 0 (.slice Av N cv) N (u8s X)) := Lib.hid (own_mono (own_keep HO2.out fun k hk => hb3.block k (HO2.out.lt k hk).2) (Nat.zero_le _))
  have HLT : Hid (∀ k, (Value.slice Av N cv).ownBlock = some k → k < w2.heap.size) := Lib.hid fun k hk => (HO2.out.lt k hk).2
  have HSZ : Hid (w2.heap.size ≤ w3.heap.size) := Lib.hid hb3.size
  have HB3 := Lib.hid (HB2.out.trans (hb3.mono HB2.out.size))
  clear hown3 hb3 HO2
  go_upto_region 5 with (at_builtin; go_loud (refine wpl_app_b rfl (.tmp 12) (.tmp 13) rfl w2.heap.size _ N (u8s X) rfl (World.ownsRow.alloc HO3.out _) _ _ 1 _ rfl (lies_lit _ _ _ 1 1 rfl) (one1 _ _) (by omega) (by rw [size_alloc]; have := HSZ.out; omega) ?_; intro v4 w4 hown4 hg4; obtain ⟨A4, c4, hv4, hs4⟩ := Sl.of_own hown4; subst hv4; have hc4 : N + 1 ≤ c4 := hs4.le; have hc4' : (N : Int) ≤ c4 := by omega))
  have hg4' : Kin (w3.alloc (.cells #[.int .u8 165] 5)) w4 (.slice A3 N c3) (.slice A4 (N + 1) c4) := hg4
  have HO4 : Hid (OwnB w4 w2.heap.size (.slice A4 (N + 1) c4) (N + 1) (u8s (X ++ [165]))) := Lib.hid (own_eq hown4 rfl (by rw [u8s_app]; rfl))
  have HOB4 : Hid (OwnB w4 0 (.slice Av N cv) N (u8s X)) := Lib.hid (own_keep (World.ownsRow.alloc HO23.out _) fun k hk => hg4'.1.block k (by rw [size_alloc]; have := HLT.out k hk; have := HSZ.out; omega) (fun e => by have := HLT.out k hk; have := (HO3.out.lt k e.symm).1; omega))
  have HB4 : Hid (Below w.heap.size w w4) := Lib.hid ((HB3.out.trans ((bel_alloc w3 _).mono HB3.out.size)).trans (hg4'.below (by rw [size_alloc]; have := HB3.out.size; omega) (fun k hk => by have := (HO3.out.lt k hk).1; have := HB2.out.size; omega)))
  have HC4 := Lib.hid hc4
  clear hg4 hg4' hown4 hs4 hc4 HO3 HO23 HLT HSZ HB3 HB2
  have hst : ∀ (w' : World), OwnB w' w2.heap.size (.slice A4 (N + 1) c4) (N + 1) (u8s (X ++ [165])) → Sl w' w'.heap.size 1 A4 N c4 (u8s X) := fun w' h => by
    have h1 := (sl_own h).take (k := N) (by omega)
    rw [Nat.mul_one, u8s_app, List.take_left' (by rw [u8s_len, HXL.out])] at h1
    exact h1
  have HST := Lib.hid hst
  clear hst
  go_wp2_with fail
  refine (pload_of (HST.out _ HO4.out) HXL.out).mono ?_
  rintro e w5 (⟨hok, Q, rfl, hpg, hQ, hb5⟩ | ⟨hno, rfl, hb5⟩)
  · have HOK := Lib.hid hok
    have HOB5 : Hid (OwnB w5 0 (.slice Av N cv) N (u8s X)) := Lib.hid (own_keep HOB4.out fun k hk => hb5.block k (HOB4.out.lt k hk).2)
    have HO5 : Hid (OwnB w5 w2.heap.size (.slice A4 (N + 1) c4) (N + 1) (u8s (X ++ [165]))) := Lib.hid (own_keep HO4.out fun k hk => hb5.block k (HO4.out.lt k hk).2)
    have HB5 := Lib.hid (HB4.out.trans (hb5.mono HB4.out.size))
    have HPG := Lib.hid hpg
    clear hok hpg hQ hb5 HOB4 HO4 HB4
    go_wp2_with fail
    refine (rload_of HOB5.out HXL.out).mono ?_
    rintro e w6 (⟨_, F, R, E, Ae, cc, rfl, hE, hrf, hF, hb6⟩ | ⟨hno2, rfl, hb6⟩)
    rotate_left
    · exact absurd HOK.out hno2
    have HOB6 : Hid (OwnB w6 0 (.slice Av N cv) N (u8s X)) := Lib.hid (own_keep HOB5.out fun k hk => hb6.block k (HOB5.out.lt k hk).2)
    have HO6 : Hid (OwnB w6 w2.heap.size (.slice A4 (N + 1) c4) (N + 1) (u8s (X ++ [165]))) := Lib.hid (own_keep HO5.out fun k hk => hb6.block k (HO5.out.lt k hk).2)
    have HB6 := Lib.hid (HB5.out.trans (hb6.mono HB5.out.size))
    have HPG6 : Hid (Pg w6 Q X) := Lib.hid ⟨Blk.below HPG.out.1 hb6 (Blk.lt HPG.out.1), HPG.out.2⟩
    have HRF := Lib.hid hrf
    have HE := Lib.hid hE
    have CS := Lib.hid (same_any X X A4 N c4 Av N cv w6 (HST.out _ HO6.out) (sl_own HOB6.out))
    rw [decide_eq_true rfl] at CS
    obtain ⟨g4, rfl, hby, _, _⟩ := own_cap HO6.out (by omega)
    have x0 : w6.cell? ⟨g4, N, none⟩ = some (.int .u8 165) := hby.at_ N 165 (by rw [List.getElem?_append_right (by rw [HXL.out]; exact Nat.le_refl _), HXL.out, Nat.sub_self]; rfl)
    have z1 : IntKind.i64.wrap ((N : Int) + 1) = (N : Int) + 1 := by rw [IntKind.wrap_i64]; omega
    have z2 : (N : Int) + 1 ≤ c4 := by have := HC4.out; omega
    clear hF hb6 hby hE hrf HOB5 HO5 HB5 HPG
    go_wp2_with fail
    refine CS.out.mono ?_
    rintro e w7 ⟨rfl, rfl⟩
    go_wp2_with fail
    clear x0
    refine (bytes_pg Q X _ HPG6.out).mono ?_
    rintro e w8 ⟨v8, rfl, ho8, hb8⟩
    obtain ⟨A8, c8, rfl, hs8⟩ := Sl.of_own ho8
    have HB8 := Lib.hid (HB6.out.trans (hb8.mono HB6.out.size))
    have HPG8 : Hid (Pg w8 Q X) := Lib.hid ⟨Blk.below HPG6.out.1 hb8 (Blk.lt HPG6.out.1), HPG6.out.2⟩
    have HRF8 := Lib.hid (HRF.out.below hb8)
    have CS8 := Lib.hid (same_any X X A8 512 c8 Av N cv w8 hs8 (sl_own (own_keep HOB6.out fun k hk => hb8.block k (HOB6.out.lt k hk).2)))
    rw [decide_eq_true rfl] at CS8
    clear ho8 hs8 hb8
    go_wp2_with fail
    refine CS8.out.mono ?_
    rintro e w9 ⟨rfl, rfl⟩
    have HP8 : Hid (Hp w8 Q (Lx X) (bgN X)) := Lib.hid ⟨X, HPG8.out, HOK.out.has.1⟩
    have hEl : E.length ≤ 128 := by
      have h1 : (E.map Prod.fst).length = (Lx X).length := by rw [HE.out]
      rw [List.length_map, Lx_len] at h1
      have := rs_split HOK.out.rs
      omega
    have hEv : ∀ (i : Nat) (v : Ver) (f : Nat), (E.map Prod.fst)[i]? = some (some (v, f)) → v.d.length ≤ 200 := fun i v f h => by
      rw [HE.out] at h
      exact (HOK.out.span h).2.2.2.2.2.2.2.2.d
    go_wp2_with fail
    refine (used_has Q (Lx X) (bgN X) _ HP8.out).mono ?_
    rintro e w10 ⟨rfl, m1, rfl⟩
    go_wp2_with fail
    refine (rused_any (HRF8.out.drewN m1) hEl).mono ?_
    rintro e w11 ⟨rfl, hb11⟩
    rw [HE.out]
    have HP11 : Hid (Hp w11 Q (Lx X) (bgN X)) := Lib.hid ⟨X, ⟨Blk.below (show Blk (World.drewN _ m1) Q _ _ from HPG8.out.1) hb11 (Blk.lt HPG8.out.1), HPG8.out.2⟩, HOK.out.has.1⟩
    have HRF11 := Lib.hid ((HRF8.out.drewN m1).below hb11)
    have HB11 : Hid (Below w.heap.size w w11) := Lib.hid (HB8.out.trans (⟨hb11.os, hb11.tape, hb11.output, hb11.size, fun k hk => hb11.block k (Nat.lt_of_lt_of_le hk HB8.out.size)⟩))
    clear hb11
    go_wp2_with fail
    refine (room_has Q (Lx X) (bgN X) _ HP11.out).mono ?_
    rintro e w12 ⟨rfl, m2, rfl⟩
    go_wp2_with fail
    refine (rroom_any (HRF11.out.drewN m2) hEl hEv).mono ?_
    rintro e w13 ⟨rfl, hb13⟩
    rw [HE.out]
    have HB13 : Hid (Below w.heap.size w w13) := Lib.hid (HB11.out.trans (⟨hb13.os, hb13.tape, hb13.output, hb13.size, fun k hk => hb13.block k (Nat.lt_of_lt_of_le hk HB11.out.size)⟩))
    clear hb13
    go_wp2_with fail
    go_ret
    exact ⟨rfl, HB13.out⟩
  · have HNO := Lib.hid hno
    have HOB5 : Hid (OwnB w5 0 (.slice Av N cv) N (u8s X)) := Lib.hid (own_keep HOB4.out fun k hk => hb5.block k (HOB4.out.lt k hk).2)
    have HO5 : Hid (OwnB w5 w2.heap.size (.slice A4 (N + 1) c4) (N + 1) (u8s (X ++ [165]))) := Lib.hid (own_keep HO4.out fun k hk => hb5.block k (HO4.out.lt k hk).2)
    have HB5 := Lib.hid (HB4.out.trans (hb5.mono HB4.out.size))
    clear hno hb5 HOB4 HO4 HB4
    go_wp2_with fail
    refine (rload_of HOB5.out HXL.out).mono ?_
    rintro e w6 (⟨hok2, _⟩ | ⟨_, rfl, hb6⟩)
    · exact absurd hok2 HNO.out
    have HOB6 : Hid (OwnB w6 0 (.slice Av N cv) N (u8s X)) := Lib.hid (own_keep HOB5.out fun k hk => hb6.block k (HOB5.out.lt k hk).2)
    have HO6 : Hid (OwnB w6 w2.heap.size (.slice A4 (N + 1) c4) (N + 1) (u8s (X ++ [165]))) := Lib.hid (own_keep HO5.out fun k hk => hb6.block k (HO5.out.lt k hk).2)
    have HB6 := Lib.hid (HB5.out.trans (hb6.mono HB5.out.size))
    have CS := Lib.hid (same_any X X A4 N c4 Av N cv w6 (HST.out _ HO6.out) (sl_own HOB6.out))
    rw [decide_eq_true rfl] at CS
    obtain ⟨g4, rfl, hby, _, _⟩ := own_cap HO6.out (by omega)
    have x0 : w6.cell? ⟨g4, N, none⟩ = some (.int .u8 165) := hby.at_ N 165 (by rw [List.getElem?_append_right (by rw [HXL.out]; exact Nat.le_refl _), HXL.out, Nat.sub_self]; rfl)
    have z1 : IntKind.i64.wrap ((N : Int) + 1) = (N : Int) + 1 := by rw [IntKind.wrap_i64]; omega
    have z2 : (N : Int) + 1 ≤ c4 := by have := HC4.out; omega
    clear hb6 hby HOB5 HO5 HB5
    go_wp2_with fail
    refine CS.out.mono ?_
    rintro e w7 ⟨rfl, rfl⟩
    go_wp2_with fail
    go_ret
    exact ⟨rfl, HB6.out⟩
end Go.Proofs.Ytbkdbnkakjogjaa.Mem
