/- Texts TidKey to LHeapChains, one behind the other. -/
import Derived.Test.YthghnhcopmmmpaaMPHC4
import Derived.Maps.Own
import Derived.Maps.OwnSet
import Derived.Maps.Views
import Derived.DeepKeys4
import Derived.StillTailTactics
/- Places as keys of a map. -/
namespace Go.Proofs.Ythghnhcopmmmpaa.Hea
open Go.RowKit Go.Proofs.Ythghnhcopmmmpaa.Nums Go.Proofs.Ythghnhcopmmmpaa.Mem
set_option linter.unusedVariables false
set_option linter.unusedSimpArgs false
set_option maxRecDepth 100000
theorem laidOutT : laidOutB Try.prog = true := by kernel_rfl
theorem rowTID : (30 : TypeId) < Try.prog.types.size := of_decide_eq_true (by kernel_rfl)
theorem wideTID : (match Try.prog.underlying 30 with | some (.array _ _) | some (.struct _) => true | _ => false) = true := by kernel_rfl
theorem lawT : Go.Maps.Keyed Try.prog 30 := Go.Maps.Keyed.of_law (deep_law_laid laidOutT (m := 2) (by omega) rowTID (by kernel_rfl) wideTID)
def tidV (x : Int × Int) : Value := .agg #[.int .i64 x.1, .int .i64 x.2]
theorem keyTypeT : Try.prog.keyType 30 = true := by kernel_rfl
theorem cellsT2 : Try.prog.cellsOf 30 = 2 := by kernel_rfl
theorem cellsI1 : Try.prog.cellsOf 3 = 1 := by kernel_rfl
/-- what a place reads as -/
noncomputable def kl (x : Int × Int) : Lit := (keyOf Try.prog 30 (tidV x)).getD .nil
theorem wfI {x : Int} (h : Nums.In64 x) : (Lit.int .i64 x).wf = true := WalkArith.wf_i64 h
theorem key_tid {x : Int × Int} (h1 : Nums.In64 x.1) (h2 : Nums.In64 x.2) : keyOf Try.prog 30 (tidV x) = some (kl x) := by
  have e : ∃ l, keyOf Try.prog 30 (tidV x) = some l := by
    obtain ⟨m, hm⟩ := Nat.exists_eq_succ_of_ne_zero (n := Try.prog.types.size) (Nat.pos_iff_ne_zero.1 (Nat.lt_of_le_of_lt (Nat.zero_le _) rowTID))
    unfold keyOf
    rw [hm]
    simp [Try.underlying30, keyTypeT, tidV, Value.formed, cellsT2, Program.keyLits, Value.cells, Try.underlying3, cellsI1, wfI h1, wfI h2]
  obtain ⟨l, hl⟩ := e
  unfold kl
  rw [hl]
  rfl
theorem kl_key {x : Int × Int} (h1 : Nums.In64 x.1) (h2 : Nums.In64 x.2) : WideAt.IsKeyLit (kl x) := lawT.key (key_tid h1 h2)
theorem kl_ne {x y : Int × Int} (h1 : Nums.In64 x.1) (h2 : Nums.In64 x.2) (h3 : Nums.In64 y.1) (h4 : Nums.In64 y.2) (h : x ≠ y) : kl x ≠ kl y := fun e => by
  have a := key_tid h1 h2
  have b := key_tid h3 h4
  rw [← e] at b
  have := lawT.inj a b
  unfold tidV at this
  injection this with this
  have h5 : (#[Value.int .i64 x.1, .int .i64 x.2] : Array Value)[0]? = (#[Value.int .i64 y.1, .int .i64 y.2] : Array Value)[0]? := by rw [this]
  have h6 : (#[Value.int .i64 x.1, .int .i64 x.2] : Array Value)[1]? = (#[Value.int .i64 y.1, .int .i64 y.2] : Array Value)[1]? := by rw [this]
  simp at h5 h6
  exact h (Prod.ext h5 h6)
def TidD (w : World) (M n : Nat) (D : DataW Unit) : Prop := w.ownsMap Try.prog 30 unitElem M n D
/-- the map has just these places -/
structure RepT (D : DataW Unit) (L : List (Int × Int)) : Prop where
  map : Maps.IsMap D
  has : ∀ x : Int × Int, Nums.In64 x.1 → Nums.In64 x.2 → (Maps.has D (kl x) = true ↔ x ∈ L)
theorem repT_nil : RepT (.map []) [] := ⟨Maps.isMap_empty, fun x _ _ => by simp [Maps.has]⟩
theorem RepT.put {D : DataW Unit} {L : List (Int × Int)} (h : RepT D L) {y : Int × Int} (h1 : Nums.In64 y.1) (h2 : Nums.In64 y.2) (u : DataW Unit) : RepT (D.put (kl y) u) (L ++ [y]) := by
  refine ⟨h.map.put _ _, fun x h3 h4 => ?_⟩
  by_cases e : x = y
  · subst e
    rw [Maps.has_put_same h.map (kl_key h1 h2)]
    simp
  · rw [Maps.has_put_other (kl_ne h3 h4 h1 h2 e), h.has x h3 h4]
    simp [e]
theorem RepT.no {D : DataW Unit} {L : List (Int × Int)} (h : RepT D L) {y : Int × Int} (h1 : Nums.In64 y.1) (h2 : Nums.In64 y.2) (hn : ¬ y ∈ L) : Maps.has D (kl y) = false := by
  cases e : Maps.has D (kl y) with
  | false => rfl
  | true => exact absurd ((h.has y h1 h2).1 e) hn
theorem RepT.yes {D : DataW Unit} {L : List (Int × Int)} (h : RepT D L) {y : Int × Int} (h1 : Nums.In64 y.1) (h2 : Nums.In64 y.2) (hn : y ∈ L) : Maps.has D (kl y) = true := (h.has y h1 h2).2 hn
end Go.Proofs.Ythghnhcopmmmpaa.Hea
/- heap.Chain. -/
namespace Go.Proofs.Ythghnhcopmmmpaa.Hea
open Go.RowKit Go.Proofs.Ythghnhcopmmmpaa.Nums Go.Proofs.Ythghnhcopmmmpaa.Mem Go.Proofs.Ythghnhcopmmmpaa.Room
set_option linter.unusedVariables false
set_option linter.unusedSimpArgs false
set_option maxRecDepth 100000
set_option maxHeartbeats 4000000
/-- those places, in a slice of one's own -/
def ChainP (w : World) (R : List (Int × Int)) (e : Ending) (w' : World) : Prop := ∃ A c, e = .returned (.slice A R.length c) ∧ w'.ownsRow w.heap.size 30 2 (.slice A R.length c) R.length (tids R) ∧ Below w.heap.size w w'
/-- Chain between two rounds: T the place, M the map, A the slice -/
structure CS (b w wl : World) (F : Nat → Prop) (H PL : Nat) (l : List PgE) (T M n : Nat) (D : DataW Unit) (L : List (Int × Int)) (A : Option Addr) (c k : Nat) (K : List (Int × Int)) (x : Int × Int) : Prop where
  hf : HF b wl F H PL l
  old : ∀ g, F g → g < w.heap.size
  box : Blk wl T 30 #[.int .i64 x.1, .int .i64 x.2]
  map : TidD wl M n D
  rep : RepT D L
  own : wl.ownsRow w.heap.size 30 2 (.slice A k c) k (tids K)
  far : (Value.slice A k c).ownBlock ≠ some T
  bel : Below w.heap.size w wl
  tT : w.heap.size ≤ T
  tM : w.heap.size ≤ M
section
variable {b w wl w' : World} {F : Nat → Prop} {H PL T M n c k : Nat} {l : List PgE} {D : DataW Unit} {A : Option Addr} {L K : List (Int × Int)} {x : Int × Int}
theorem tid_map {w : World} {M n : Nat} {D : DataW Unit} (h : TidD w M n D) : M < w.heap.size ∧ ∀ w', w'.heap[M]? = w.heap[M]? → TidD w' M n D := by
  obtain ⟨es, clock, hb, r⟩ := h
  exact ⟨(Array.getElem?_eq_some_iff.1 hb).1, fun w' e => ⟨es, clock, e.trans hb, r⟩⟩
theorem tid_not {w : World} {M n : Nat} {D : DataW Unit} (h : TidD w M n D) {g : Nat} {t : TypeId} {cs : Array Value} (hb : Blk w g t cs) : g ≠ M := by
  obtain ⟨es, clock, hm, r⟩ := h
  intro e
  subst e
  have h1 : w.heap[g]? = some (.cells cs t (0, 0)) := hb
  rw [hm] at h1
  cases h1
theorem tid_own {w : World} {M n B m : Nat} {D : DataW Unit} (h : TidD w M n D) {v : Value} {xs : List Value} (ho : w.ownsRow B 30 2 v m xs) : v.ownBlock ≠ some M := by
  intro e
  rcases ho.2 with ⟨h0, _⟩ | ⟨g, cap, cur, hv, _, hc, _⟩
  · rw [h0] at e; simp [Value.ownBlock] at e
  · rw [hv] at e
    have : g = M := by simpa [Value.ownBlock] using e
    exact tid_not h hc this
theorem CS.keep (h : CS b w wl F H PL l T M n D L A c k K x) (hk : ∀ g, g < wl.heap.size → wl.heap[g]? = w'.heap[g]?) (hs : wl.heap.size ≤ w'.heap.size) (hb : Below w.heap.size w w') : CS b w w' F H PL l T M n D L A c k K x :=
  ⟨h.hf.keep (fun g hg => (hk g (h.hf.lt g hg)).symm) hs, h.old, (hk T (Blk.lt h.box)).symm.trans h.box, (tid_map h.map).2 _ (hk M (tid_map h.map).1).symm, h.rep, own_keep h.own fun g hg => (hk g (h.own.lt g hg).2).symm, h.far, hb, h.tT, h.tM⟩
theorem CS.below (h : CS b w wl F H PL l T M n D L A c k K x) (hb : Below wl.heap.size wl w') : CS b w w' F H PL l T M n D L A c k K x :=
  h.keep (fun g hg => (hb.block g hg).symm) hb.size (h.bel.trans (hb.mono h.bel.size))
theorem CS.mapped (h : CS b w wl F H PL l T M n D L A c k K x) (hx : Nums.In64 x.1 ∧ Nums.In64 x.2) {u : DataW Unit} (hm : TidD w' M (n + 1) (D.put (kl x) u)) (hg : wl.grownBy w' (some M)) : CS b w w' F H PL l T M (n + 1) (D.put (kl x) u) (L ++ [x]) A c k K x := by
  have hk : ∀ g, g ≠ M → g < wl.heap.size → w'.heap[g]? = wl.heap[g]? := fun g hne hlt => hg.block g hlt (fun e => by injection e with e; exact hne e)
  have hFM : ∀ g, F g → g ≠ M := fun g hg e => by have := h.old g hg; have := h.tM; omega
  refine ⟨h.hf.keep (fun g hg => hk g (hFM g hg) (h.hf.lt g hg)) hg.size, h.old, (hk T (tid_not h.map h.box) (Blk.lt h.box)).trans h.box, hm, h.rep.put hx.1 hx.2 u, own_keep h.own fun g hg' => hk g (fun e => tid_own h.map h.own (by rw [hg', e])) (h.own.lt g hg').2, h.far, h.bel.trans ⟨hg.os, hg.tape, hg.output, hg.size, fun g hlt => hk g (by have := h.tM; omega) (Nat.lt_of_lt_of_le hlt h.bel.size)⟩, h.tT, h.tM⟩
theorem CS.app (h : CS b w wl F H PL l T M n D L A c k K x) {A' : Option Addr} {c' : Nat} {y : Int × Int} (hown : w'.ownsRow w.heap.size 30 2 (.slice A' (k + 1) c') (k + 1) (tids K ++ tids [y])) (hk : Kin wl w' (.slice A k c) (.slice A' (k + 1) c')) : CS b w w' F H PL l T M n D L A' c' (k + 1) (K ++ [y]) x := by
  have hb : ∀ g, (Value.slice A k c).ownBlock ≠ some g → g < wl.heap.size → w'.heap[g]? = wl.heap[g]? := fun g hne hlt => hk.1.block g hlt (Ne.symm hne)
  have hof : ∀ g, (Value.slice A k c).ownBlock = some g → w.heap.size ≤ g := fun g hg => (h.own.lt g hg).1
  refine ⟨h.hf.keep (fun g hg => hb g (fun e => by have := hof g e; have := h.old g hg; omega) (h.hf.lt g hg)) hk.1.size, h.old, (hb T h.far (Blk.lt h.box)).trans h.box, (tid_map h.map).2 _ (hb M (tid_own h.map h.own) (tid_map h.map).1), h.rep, by rw [tids_app]; exact hown, fun e => ?_, h.bel.trans (hk.below h.bel.size hof), h.tT, h.tM⟩
  rcases hk.2 with e2 | ⟨g', e2, hg'⟩
  · exact h.far (by rw [← e2]; exact e)
  · rw [e] at e2
    injection e2 with e2
    have := Blk.lt h.box
    omega
theorem CS.move (h : CS b w wl F H PL l T M n D L A c k K x) (y : Int × Int) : CS b w ((wl.setCell ⟨T, 0, none⟩ (.int .i64 y.1)).setCell ⟨T, 1, none⟩ (.int .i64 y.2)) F H PL l T M n D L A c k K y := by
  have ho : Only T wl ((wl.setCell ⟨T, 0, none⟩ (.int .i64 y.1)).setCell ⟨T, 1, none⟩ (.int .i64 y.2)) := ((Only.refl T wl).set_ 0 _).set_ 1 _
  have hb : ∀ g, g ≠ T → g < wl.heap.size → ((wl.setCell ⟨T, 0, none⟩ (.int .i64 y.1)).setCell ⟨T, 1, none⟩ (.int .i64 y.2)).heap[g]? = wl.heap[g]? := fun g hne hlt => ho.block g hlt hne
  refine ⟨h.hf.keep (fun g hg => hb g (fun e => by have := h.old g hg; have := h.tT; omega) (h.hf.lt g hg)) ho.size, h.old, Blk.set_ (Blk.set_ h.box 0 _) 1 _, (tid_map h.map).2 _ (hb M (Ne.symm (tid_not h.map h.box)) (tid_map h.map).1), h.rep, own_keep h.own fun g hg => hb g (fun e => h.far (by rw [hg, e])) (h.own.lt g hg).2, h.far, h.bel.trans (ho.below h.bel.size h.tT), h.tT, h.tM⟩
end
def lenV : Value → Nat | .slice _ n _ => n | _ => 0
theorem chain_any {b w : World} {F : Nat → Prop} {H PL : Nat} {l : List PgE} (h : HF b w F H PL l) {R : List (Int × Int)} {E : Int × Int} (hp : Path l R E) (hin : ∀ (j : Nat) (x : Int × Int), (R ++ [E])[j]? = some x → Nums.In64 x.1 ∧ Nums.In64 x.2) (hr : R.length ≤ 1000) {p0 s0 : Int} (hx0 : (R ++ [E])[0]? = some (p0, s0)) :
    Calls Try.prog 55 #[.pointer (some ⟨H, 0, none⟩), .agg #[.int .i64 p0, .int .i64 s0]] w (ChainP w R) := by
  obtain ⟨T, hT⟩ : ∃ T, w.heap.size = T := ⟨_, rfl⟩
  obtain ⟨M, hM⟩ : ∃ M, T + 1 = M := ⟨_, rfl⟩
  obtain ⟨W1, hW1⟩ : ∃ W1, w.alloc (.cells #[.int .i64 p0, .int .i64 s0] 30) = W1 := ⟨_, rfl⟩
  obtain ⟨W2, hW2⟩ : ∃ W2, W1.alloc (.map #[] 0) = W2 := ⟨_, rfl⟩
  have hs1 : W1.heap.size = M := by rw [← hW1, size_alloc, hT, hM]
  have hb0 : Below w.heap.size w W2 := by rw [← hW2]; exact bel_trans (by rw [← hW1]; exact bel_alloc _ _) (bel_alloc _ _)
  have C0 : Hid (CS b w W2 F H PL l T M 0 (.map []) [] none 0 0 [] (p0, s0)) := Lib.hid ⟨h.below hb0, h.lt, by rw [← hW2]; exact Blk.alloc (by rw [← hW1, ← hT]; exact Blk.new w _ _) _, by rw [← hW2, ← hs1]; exact World.ownsMap_made _ _ _ _, repT_nil, World.ownsRow_nil _ _ _ _, fun e => by simp [Value.ownBlock] at e, hb0, by omega, by omega⟩
  have HP := Lib.hid hp
  have HIN := Lib.hid hin
  have HR := Lib.hid hr
  have HX0 := Lib.hid hx0
  have HWS := Lib.hid (And.intro hW1 (And.intro hW2 (And.intro hT hM)))
  have hmm := @run_makeMap Try.prog
  clear h hp hin hr hx0 hb0 hs1 hW1 hW2 hT hM
  go_enter Try.func55, Try.ntmps55
  go_upto_region 3 with fail
  rw [HWS.out.1, HWS.out.2.1, HWS.out.2.2.1, HWS.out.2.2.2]
  go_loopw [5] (fun v wl => ∃ (j n c : Nat) (D : DataW Unit) (A : Option Addr) (x : Int × Int), j ≤ R.length ∧ n ≤ j ∧ v = .slice A j c ∧ (R ++ [E])[j]? = some x ∧ CS b w wl F H PL l T M n D (R.take j) A c j (R.take j) x) (fun v _ => R.length + 1 - lenV v)
  case atStart => exact ⟨0, 0, 0, _, _, _, by omega, by omega, rfl, HX0.out, C0.out⟩
  case round =>
    obtain ⟨j, n, c, D, A, x, hj, hn, rfl, hx, hcs⟩ := hrel
    obtain ⟨p, s⟩ := x
    have HX := Lib.hid hx
    have HCS := Lib.hid hcs
    have HJ := Lib.hid hj
    have HN := Lib.hid hn
    have HE := Lib.hid (HIN.out j _ hx)
    have x0 := hcs.box.cell 0
    have x1 := hcs.box.cell 1
    have CG := Lib.hid (get_sq hcs.hf p s)
    clear hx hcs hj hn C0
    go_wp2_with fail
    refine CG.out.mono ?_
    rintro e wa ⟨r, a, b2, p2, s2, Au, nu, cu, ok, rfl, hgr, hba⟩
    have SA := Lib.hid (HCS.out.below hba)
    have HGR := Lib.hid hgr
    clear hgr hba HCS x0 x1 CG
    obtain ⟨Ta, hTa⟩ : ∃ Ta, wa.heap.size = Ta := ⟨_, rfl⟩
    obtain ⟨wb, hwb⟩ : ∃ wb, wa.alloc (.cells #[.int .u64 r, .int .u64 a, .int .u64 b2, .int .i64 p2, .int .i64 s2, .slice Au nu cu] 33) = wb := ⟨_, rfl⟩
    have SB : Hid (CS b w wb F H PL l T M n D (R.take j) A c j (R.take j) (p, s)) := Lib.hid (by rw [← hwb]; exact SA.out.below (bel_alloc _ _))
    have XB : Hid (Blk wb Ta 33 #[.int .u64 r, .int .u64 a, .int .u64 b2, .int .i64 p2, .int .i64 s2, .slice Au nu cu]) := Lib.hid (by rw [← hwb, ← hTa]; exact Blk.new wa _ _)
    have HWB := Lib.hid (And.intro hwb hTa)
    clear hwb hTa SA
    go_upto_region 4 with fail
    rw [HWB.out.1, HWB.out.2]
    have x0 : wb.cell? ⟨T, 0, none⟩ = some (.int .i64 p) := SB.out.box.cell 0
    have x1 : wb.cell? ⟨T, 1, none⟩ = some (.int .i64 s) := SB.out.box.cell 1
    have HKT : Hid (keyOf Try.prog 30 (.agg #[.int .i64 p, .int .i64 s]) = some (kl (p, s))) := Lib.hid (key_tid (x := (p, s)) HE.out.1 HE.out.2)
    obtain ⟨hs9, hhs9⟩ : ∃ hs9, Maps.has D (kl (p, s)) = hs9 := ⟨_, rfl⟩
    have HHAS := Lib.hid hhs9
    by_cases hl : j < R.length
    · have hx2 : R[j]? = some (p, s) := by have h := HX.out; rwa [List.getElem?_append_left hl] at h
      have hno : hs9 = false := by
        rw [← HHAS.out]
        refine SB.out.rep.no HE.out.1 HE.out.2 fun hm => ?_
        obtain ⟨i, hi⟩ := List.getElem?_of_mem hm
        rw [List.getElem?_take] at hi
        split at hi
        · have := HP.out.dis i j _ hi hx2; omega
        · cases hi
      obtain ⟨v, h1, h2⟩ := HP.out.con j _ hx2
      have hok : ok = true ∧ (R ++ [E])[j + 1]? = some (p2, s2) := by
        rcases HGR.out with ⟨v', h3, h4, h5⟩ | ⟨h3, _⟩
        · have h6 : some v' = some v := h3.symm.trans h1
          injection h6 with h6
          exact ⟨h4, by rw [h2, ← h6, h5]⟩
        · have h6 : (none : Option Ver) = some v := h3.symm.trans h1
          cases h6
      obtain ⟨rfl, hnx⟩ := hok
      subst hno
      have HNX := Lib.hid hnx
      have HTK : Hid (R.take (j + 1) = R.take j ++ [(p, s)]) := Lib.hid (by rw [List.take_add_one, hx2]; rfl)
      have HL := Lib.hid hl
      clear hx2 h1 h2 hnx hl hhs9
      go_upto_region 5 with (at_lookup; refine wpList_lookup_own_unit _ rfl _ _ 148 rfl 30 149 lawT Try.underlying148 (Try.zeroValue149 _) M n D rfl SB.out.map _ _ rfl HKT.out ?_; rw [HHAS.out])
      obtain ⟨wc, hwc⟩ : ∃ wc, wb.alloc (.cells #[] 149) = wc := ⟨_, rfl⟩
      have SC : Hid (CS b w wc F H PL l T M n D (R.take j) A c j (R.take j) (p, s)) := Lib.hid (by rw [← hwc]; exact SB.out.below (bel_alloc _ _))
      have XC : Hid (Blk wc Ta 33 #[.int .u64 r, .int .u64 a, .int .u64 b2, .int .i64 p2, .int .i64 s2, .slice Au nu cu]) := Lib.hid (by rw [← hwc]; exact Blk.alloc XB.out _)
      have HWC := Lib.hid hwc
      clear hwc x0 x1
      rw [HWC.out]
      have x0 : wc.cell? ⟨T, 0, none⟩ = some (.int .i64 p) := SC.out.box.cell 0
      have x1 : wc.cell? ⟨T, 1, none⟩ = some (.int .i64 s) := SC.out.box.cell 1
      have HNM : Hid (n < maxLen) := Lib.hid (by have := HN.out; have := HR.out; have := HL.out; unfold maxLen; omega)
      go_upto_region 8 with (first | (at_mapUpdate; refine wpList_mapUpdate_own _ rfl _ _ _ 148 rfl 30 149 lawT Try.underlying148 _ M n D rfl SC.out.map HNM.out _ _ _ rfl rfl HKT.out _ [] unitElem_mk ?_; intro wd hown4 hg4) | fail)
      have SD := Lib.hid (SC.out.mapped HE.out hown4 hg4)
      have XD : Hid (Blk wd Ta 33 #[.int .u64 r, .int .u64 a, .int .u64 b2, .int .i64 p2, .int .i64 s2, .slice Au nu cu]) := Lib.hid ((hg4.block Ta (Blk.lt XC.out) (fun e => by injection e with e; exact tid_not SC.out.map XC.out e)).trans XC.out)
      clear hown4 hg4 x0 x1
      have x0 : wd.cell? ⟨T, 0, none⟩ = some (.int .i64 p) := SD.out.box.cell 0
      have x1 : wd.cell? ⟨T, 1, none⟩ = some (.int .i64 s) := SD.out.box.cell 1
      have hB7 := SD.out.bel.size
      have hjb : j ≤ 1000 := by have := HL.out; have := HR.out; omega
      go_upto_region 9 with (at_builtin; go_loud (refine wpl_app_t rfl (.tmp 33) (.tmp 35) rfl w.heap.size _ j (tids (R.take j)) rfl (World.ownsRow.alloc SD.out.own _) _ _ 1 (tids [(p, s)]) rfl (lies_at _ #[.int .i64 p, .int .i64 s] _ 2 1 wd.heap.size rfl rfl) (fun u hu => by simp [tids] at hu; rcases hu with rfl | rfl <;> rfl) (by omega) (by rw [size_alloc]; omega) ?_; intro v1 we hown1 hg1; obtain ⟨A1, c1, hv1, _⟩ := Sl.of_own hown1; subst hv1))
      have SE := Lib.hid ((SD.out.below (bel_alloc wd (.cells #[.int .i64 p, .int .i64 s] 30))).app (y := (p, s)) hown1 hg1)
      have XE : Hid (Blk we Ta 33 #[.int .u64 r, .int .u64 a, .int .u64 b2, .int .i64 p2, .int .i64 s2, .slice Au nu cu]) := Lib.hid ((hg1.1.block Ta (by rw [size_alloc]; have := Blk.lt XD.out; omega) (Ne.symm (own_blk_ne SD.out.own XD.out (by decide)))).trans (Blk.alloc XD.out _))
      clear hown1 hg1 x0 x1 hB7
      have x0 := SE.out.box.cell 0
      have x1 := SE.out.box.cell 1
      have f0 := SE.out.box.frozen 0
      have f1 := SE.out.box.frozen 1
      have y3 := XE.out.cell 3
      have y4 := XE.out.cell 4
      go_wp2_with fail
      go_roundw
      case rel => exact ⟨j + 1, n + 1, c1, _, A1, (p2, s2), by have := HL.out; omega, by have := HN.out; omega, by first | rfl | (congr 1), HNX.out, by rw [HTK.out]; exact SE.out.move (p2, s2)⟩
      case measure => have := HL.out; simp [lenV]; omega
    · have hje : j = R.length := by have := HJ.out; omega
      have hxe : (p, s) = E := by
        have h := HX.out
        rw [hje, List.getElem?_append_right (Nat.le_refl _), Nat.sub_self] at h
        simp at h
        exact h.symm
      have hend : hs9 = true ∨ (hs9 = false ∧ ok = false) := by
        cases hs9 with
        | true => exact .inl rfl
        | false =>
          refine .inr ⟨rfl, ?_⟩
          rcases HP.out.fin with h | h
          · rcases HGR.out with ⟨v', h3, _⟩ | ⟨_, h4⟩
            · rw [← hxe] at h
              have h6 : some v' = none := h3.symm.trans h
              cases h6
            · exact h4
          · rw [← hxe] at h
            have h7 := SB.out.rep.yes HE.out.1 HE.out.2 (by rw [hje, List.take_length]; exact h)
            rw [HHAS.out] at h7
            cases h7
      have HJE := Lib.hid hje
      clear hje hxe hl hhs9
      rcases hend with rfl | ⟨rfl, rfl⟩
      · go_wp2_with (at_lookup; refine wpList_lookup_own_unit _ rfl _ _ 148 rfl 30 149 lawT Try.underlying148 (Try.zeroValue149 _) M n D rfl SB.out.map _ _ rfl HKT.out ?_; rw [HHAS.out])
        go_ret
        have h := SB.out.own
        have e := HJE.out
        subst e
        rw [List.take_length] at h
        exact ⟨A, c, rfl, own_keep h fun g hg => (bel_alloc wb _).block g (h.lt g hg).2, SB.out.bel.trans ((bel_alloc wb _).mono SB.out.bel.size)⟩
      · go_wp2_with (at_lookup; refine wpList_lookup_own_unit _ rfl _ _ 148 rfl 30 149 lawT Try.underlying148 (Try.zeroValue149 _) M n D rfl SB.out.map _ _ rfl HKT.out ?_; rw [HHAS.out])
        go_ret
        have h := SB.out.own
        have e := HJE.out
        subst e
        rw [List.take_length] at h
        exact ⟨A, c, rfl, own_keep h fun g hg => (bel_alloc wb _).block g (h.lt g hg).2, SB.out.bel.trans ((bel_alloc wb _).mono SB.out.bel.size)⟩
end Go.Proofs.Ythghnhcopmmmpaa.Hea
/- heap.Stamp. -/
namespace Go.Proofs.Ythghnhcopmmmpaa.Hea
open Go.RowKit Go.Proofs.Ythghnhcopmmmpaa.Nums Go.Proofs.Ythghnhcopmmmpaa.Mem Go.Proofs.Ythghnhcopmmmpaa.Room
set_option linter.unusedVariables false
set_option linter.unusedSimpArgs false
set_option maxRecDepth 100000
set_option maxHeartbeats 4000000
theorem map_set_same {α β : Type} {l : List α} {i : Nat} {x y : α} (f : α → β) (hi : l[i]? = some x) (h : f y = f x) : (l.set i y).map f = l.map f := by
  rw [List.map_set]
  apply List.ext_getElem?
  intro j
  rw [List.getElem?_set]
  by_cases e : i = j
  · subst e
    have hl := (List.getElem?_eq_some_iff.1 hi).1
    rw [if_pos rfl, if_pos (by simpa using hl), List.getElem?_map, hi, h]
    rfl
  · rw [if_neg e]
theorem findIdx_map {L M : SL} (h : L.map (·.isNone) = M.map (·.isNone)) : nextL L = nextL M := by
  have key : ∀ l : SL, nextL l = (l.map (·.isNone)).findIdx id := fun l => by
    unfold nextL
    rw [List.findIdx_map]
    rfl
  rw [key, key, h]
theorem roomL_stamp (L : SL) (i : Int) (U : Nat) (p s : Int) : roomL (stampR L i U p s).2 = roomL L := by
  unfold stampR
  split
  · split
    · rfl
    · rename_i v f h
      obtain ⟨k, rfl, hk⟩ := atL_some h
      rw [Int.toNat_natCast]
      have h1 : (L.set k (some (v.stamped U (p + 1).toNat (s + 1).toNat, f))).map osz = L.map osz := map_set_same osz hk rfl
      have h2 : nextL (L.set k (some (v.stamped U (p + 1).toNat (s + 1).toNat, f))) = nextL L := findIdx_map (map_set_same (y := some (v.stamped U (p + 1).toNat (s + 1).toNat, f)) (·.isNone) hk rfl)
      unfold roomL tot
      show max (478 - 4 * ((max (L.set k _).length (nextL (L.set k _) + 1) : Nat) : Int) - (((L.set k _).map osz).sum : Nat)) (-1) = _
      rw [h1, h2, List.length_set]
  · rfl
section
variable {w : World} {F : Nat → Prop} {H PL : Nat} {l : List PgE} {A : Option Addr} {c M : Nat} {Ar : Option Addr} {cr : Nat}
theorem stamp_some (h : HA w F H PL l (rooms l) A c M Ar cr) {i : Nat} {x : PgE} (hi : l[i]? = some x) (sl : Int) (U : Nat) (p s : Int) :
    Calls Try.prog 45 #[.pointer (some ⟨H, 0, none⟩), .agg #[.int .i64 i, .int .i64 sl], .int .u64 U, .agg #[.int .i64 p, .int .i64 s]] w fun e w' => e = .returned (.int .i64 (stampR x.L sl U p s).1) ∧ HA w' F H PL (l.set i ⟨x.b, (stampR x.L sl U p s).2, x.st⟩) (rooms (l.set i ⟨x.b, (stampR x.L sl U p s).2, x.st⟩)) A c M Ar cr ∧ Turn F w w' := by
  obtain ⟨T0, hT0⟩ : ∃ T0, w.heap.size = T0 := ⟨_, rfl⟩
  obtain ⟨T1, hT1⟩ : ∃ T1, T0 + 1 = T1 := ⟨_, rfl⟩
  obtain ⟨W1, hW1⟩ : ∃ W1, w.alloc (.cells #[.int .i64 i, .int .i64 sl] 30) = W1 := ⟨_, rfl⟩
  obtain ⟨W0, hW0⟩ : ∃ W0, W1.alloc (.cells #[.int .i64 p, .int .i64 s] 30) = W0 := ⟨_, rfl⟩
  have hs1 : W1.heap.size = T1 := by rw [← hW1, size_alloc, hT0, hT1]
  have hb0 : Below w.heap.size w W0 := by rw [← hW0]; exact bel_trans (by rw [← hW1]; exact bel_alloc _ _) (bel_alloc _ _)
  have hbT : Blk W0 T0 30 #[.int .i64 i, .int .i64 sl] := by rw [← hW0]; exact Blk.alloc (by rw [← hW1, ← hT0]; exact Blk.new w _ _) _
  have hbR : Blk W0 T1 30 #[.int .i64 p, .int .i64 s] := by rw [← hW0, ← hs1]; exact Blk.new W1 _ _
  have HH := Lib.hid (h.below hb0)
  have HB0 := Lib.hid hb0
  have HXI := Lib.hid hi
  have HWS := Lib.hid (And.intro hW1 (And.intro hW0 (And.intro hT0 hT1)))
  have hpv : pgV l (i : Int) = .pointer (some ⟨x.b, 0, none⟩) := by
    have hl := (List.getElem?_eq_some_iff.1 hi).1
    unfold pgV
    rw [if_neg (by omega), Int.toNat_natCast, hi]
  have CP := Lib.hid (page_h HH.out i)
  rw [hpv] at CP
  have CI := Lib.hid (stampP (HH.out.pg i x hi) sl U p s)
  have x0 := hbT.cell 0
  have x1 := hbT.cell 1
  have y0 := hbR.cell 0
  have y1 := hbR.cell 1
  clear h hbT hbR hb0 hs1 hW1 hW0 hT0 hT1 hpv hi
  go_enter Try.func45, Try.ntmps45
  go_upto_region 1 with fail
  rw [HWS.out.1, HWS.out.2.1, HWS.out.2.2.1, HWS.out.2.2.2]
  go_wp2_with fail
  refine CP.out.mono ?_
  rintro e w4 ⟨rfl, rfl⟩
  go_wp2_with fail
  refine CI.out.mono ?_
  rintro e w5 ⟨rfl, hp5, ho5⟩
  clear x0 x1 y0 y1 CP CI
  have hxF := HH.out.fP i x HXI.out
  have h5 := HH.out.turnPage HXI.out ho5 hp5
  have hrl : rooms (l.set i ⟨x.b, (stampR x.L sl U p s).2, x.st⟩) = rooms l := map_set_same _ HXI.out (roomL_stamp x.L sl U p s)
  have HR := Lib.hid hrl
  have H5 := Lib.hid h5
  have HO5 := Lib.hid ho5
  have HXF := Lib.hid hxF
  clear hp5 ho5 hxF h5 hrl
  go_wp2_with fail
  go_ret
  refine ⟨rfl, by rw [HR.out]; exact H5.out, ⟨HO5.out.os.trans HB0.out.os, HO5.out.tape.trans HB0.out.tape, HO5.out.output.trans HB0.out.output, Nat.le_trans HB0.out.size HO5.out.size, fun q hq hn => ?_⟩⟩
  rw [HO5.out.block q (Nat.lt_of_lt_of_le hq HB0.out.size) (fun e => hn (e ▸ HXF.out)), HB0.out.block q hq]
end
end Go.Proofs.Ythghnhcopmmmpaa.Hea
/- HeapChains: stamps, wanted places, SamePlaces. -/
namespace Go.Proofs.Ythghnhcopmmmpaa.Hea
open Go.RowKit Go.Proofs.Ythghnhcopmmmpaa.Nums Go.Proofs.Ythghnhcopmmmpaa.Mem Go.Proofs.Ythghnhcopmmmpaa.Room
set_option linter.unusedVariables false
set_option linter.unusedSimpArgs false
set_option maxRecDepth 100000
set_option maxHeartbeats 4000000
theorem cont_high (l : List PgE) {q : Int} (h : (l.length : Int) ≤ q) (y : Int) : cont l q y = none := by
  obtain ⟨i, rfl⟩ : ∃ i : Nat, q = i := ⟨q.toNat, by omega⟩
  rw [cont_nat, List.getElem?_eq_none (by omega)]
section
variable {w wl w' : World} {F : Nat → Prop} {H PL kk c : Nat} {l l' : List PgE} {A : Option Addr} {pl : List (Int × Int)}
theorem stamp_s (h : HF w wl F H PL l) {i : Nat} {x : PgE} (hi : l[i]? = some x) (sl : Int) (U : Nat) (p s : Int) :
    Calls Try.prog 45 #[.pointer (some ⟨H, 0, none⟩), .agg #[.int .i64 i, .int .i64 sl], .int .u64 U, .agg #[.int .i64 p, .int .i64 s]] wl fun e w' => e = .returned (.int .i64 (stampR x.L sl U p s).1) ∧ HF w w' F H PL (l.set i ⟨x.b, (stampR x.L sl U p s).2, x.st⟩) ∧ Turn F wl w' := by
  obtain ⟨A, c, M, Ar, cr, ha⟩ := h.ha
  refine (stamp_some ha hi sl U p s).mono ?_
  rintro e w' ⟨he, ha', ht⟩
  exact ⟨he, ⟨⟨A, c, M, Ar, cr, ha'⟩, h.pl, h.ge⟩, ht⟩
theorem HF.small (h : HF w wl F H PL l) {i : Nat} {x : PgE} (hi : l[i]? = some x) : x.L.length ≤ 127 := by
  obtain ⟨A, c, M, Ar, cr, ha⟩ := h.ha
  exact (ha.pg i x hi).small.1
theorem HF.right (h : HF w wl F H PL l) (hl : l.length ≤ 256) {pg sl : Int} {v : Ver} (hv : cont l pg sl = some v) : 0 ≤ pg ∧ pg ≤ 256 ∧ 0 ≤ sl ∧ sl ≤ 127 ∧ nxOk pg sl = true := by
  obtain ⟨i, x, rfl, hi, ha⟩ := cont_some hv
  have h1 := (List.getElem?_eq_some_iff.1 hi).1
  have h2 := h.small hi
  unfold atv at ha
  cases hat : atL x.L sl with
  | none => rw [hat] at ha; cases ha
  | some y =>
    obtain ⟨v', f⟩ := y
    obtain ⟨k, rfl, hk⟩ := atL_some hat
    have h3 := (List.getElem?_eq_some_iff.1 hk).1
    refine ⟨by omega, by omega, by omega, by omega, ?_⟩
    unfold nxOk
    rw [decide_eq_true (show (0 : Int) ≤ i by omega), decide_eq_true (show (i : Int) ≤ 65535 by omega), decide_eq_true (show (0 : Int) ≤ k by omega), decide_eq_true (show (k : Int) ≤ 65534 by omega)]
    simp
theorem SP.stamped (h : SP w wl F H PL l kk A c pl) (hf : HF w w' F H PL l') (ht : Turn F wl w') : SP w w' F H PL l' kk A c pl :=
  ⟨h.aw.turn hf ((ht.block PL (Blk.lt h.aw.pool) h.aw.hf.pl).trans h.aw.pool) ⟨ht.os, ht.tape, ht.output, ht.size, fun q hq hn => ht.block q hq (fun hg => hn (.inl hg))⟩, h.own.keep fun g hg => ht.block g (h.own.own.lt g hg).2 (h.ofr g hg).1, h.ofr⟩
/-- one place stamped with another one -/
def StampP (w wl : World) (F : Nat → Prop) (H PL : Nat) (l : List PgE) (kk : Nat) (A : Option Addr) (c : Nat) (pl : List (Int × Int)) (x y : Int × Int) (w' : World) : Prop :=
  ∃ l' v, SP w w' F H PL l' kk A c pl ∧ l'.length = l.length ∧ (∀ p q, cont l' p q = if p = x.1 ∧ q = x.2 then some v else cont l p q) ∧ nxt v = y ∧ Turn F wl w'
theorem stamp_p (h : SP w wl F H PL l kk A c pl) (hl : l.length ≤ 256) {p1 s1 p2 s2 : Int} {v1 v2 : Ver} (h1 : cont l p1 s1 = some v1) (h2 : cont l p2 s2 = some v2) :
    Calls Try.prog 45 #[.pointer (some ⟨H, 0, none⟩), .agg #[.int .i64 p1, .int .i64 s1], .int .u64 1, .agg #[.int .i64 p2, .int .i64 s2]] wl fun e w' => (∃ r : Int, e = .returned (.int .i64 r)) ∧ StampP w wl F H PL l kk A c pl (p1, s1) (p2, s2) w' := by
  obtain ⟨i, x, rfl, hi, ha⟩ := cont_some h1
  have hn := (h.aw.hf.right hl h2).2.2.2.2
  have C := stamp_s h.aw.hf hi s1 1 p2 s2
  refine C.mono ?_
  rintro e w' ⟨rfl, hf, ht⟩
  exact ⟨⟨_, rfl⟩, _, v1.stamped 1 (p2 + 1).toNat (s2 + 1).toNat, h.stamped hf ht, List.length_set .., cont_stamp hi ha (by omega) hn x.st, nxt_stamped hn, ht⟩
/-- and the places that are wanted -/
structure SQ (w wl : World) (F : Nat → Prop) (H PL : Nat) (l : List PgE) (kk : Nat) (A : Option Addr) (c : Nat) (pl : List (Int × Int)) (B : Option Addr) (q d : Nat) (ws : List (Int × Int)) : Prop where
  sp : SP w wl F H PL l kk A c pl
  own : wl.ownsRow w.heap.size 30 2 (.slice B q d) q (tids ws)
  fr : ∀ g, (Value.slice B q d).ownBlock = some g → ¬ F g ∧ g ≠ PL ∧ (Value.slice A pl.length c).ownBlock ≠ some g
variable {B : Option Addr} {q d : Nat} {ws : List (Int × Int)}
theorem SQ.below (h : SQ w wl F H PL l kk A c pl B q d ws) (hb : Below wl.heap.size wl w') : SQ w w' F H PL l kk A c pl B q d ws :=
  ⟨h.sp.below hb, own_keep h.own fun g hg => hb.block g (h.own.lt g hg).2, h.fr⟩
theorem SQ.stamped (h : SQ w wl F H PL l kk A c pl B q d ws) (hs : SP w w' F H PL l' kk A c pl) (ht : Turn F wl w') : SQ w w' F H PL l' kk A c pl B q d ws :=
  ⟨hs, own_keep h.own fun g hg => ht.block g (h.own.lt g hg).2 (h.fr g hg).1, h.fr⟩
theorem SQ.app (h : SQ w wl F H PL l kk A c pl B q d ws) {B' : Option Addr} {d' m : Nat} {us : List (Int × Int)} (hown : w'.ownsRow w.heap.size 30 2 (.slice B' (q + m) d') (q + m) (tids ws ++ tids us)) (hk : Kin wl w' (.slice B q d) (.slice B' (q + m) d')) : SQ w w' F H PL l kk A c pl B' (q + m) d' (ws ++ us) := by
  have hb : ∀ g, (Value.slice B q d).ownBlock ≠ some g → g < wl.heap.size → w'.heap[g]? = wl.heap[g]? := fun g hne hlt => hk.1.block g hlt (Ne.symm hne)
  have hF : ∀ g, F g → w'.heap[g]? = wl.heap[g]? := fun g hg => hb g (fun e => (h.fr g e).1 hg) (h.sp.aw.hf.lt g hg)
  refine ⟨⟨⟨h.sp.aw.hf.keep hF hk.1.size, (hb PL (fun e => (h.fr PL e).2.1 rfl) (Blk.lt h.sp.aw.pool)).trans h.sp.aw.pool, h.sp.aw.bel.trans (hk.below h.sp.aw.bel.size fun g hg => (h.own.lt g hg).1), h.sp.aw.pge⟩, h.sp.own.keep fun g hg => hb g (fun e => (h.fr g e).2.2 hg) (h.sp.own.own.lt g hg).2, h.sp.ofr⟩, by rw [tids_app]; exact hown, fun g hg => ?_⟩
  rcases hk.2 with e | ⟨g', e, hg'⟩
  · exact h.fr g (by rw [← e]; exact hg)
  · rw [hg] at e
    injection e with e
    subst e
    refine ⟨fun k => by have := h.sp.aw.hf.lt g k; omega, by have := Blk.lt h.sp.aw.pool; omega, fun k => by have := (h.sp.own.own.lt g k).2; omega⟩
theorem SP.want (h : SP w wl F H PL l kk A c pl) : SQ w (wl.alloc (.cells #[] 30)) F H PL l kk A c pl (some ⟨wl.heap.size, 0, none⟩) 0 0 [] := by
  refine ⟨h.below (bel_alloc _ _), ⟨rfl, .inr ⟨wl.heap.size, 0, #[], rfl, h.aw.bel.size, Blk.new wl _ _, Nat.le_refl _, by unfold maxLen; omega, rfl, rfl⟩⟩, fun g hg => ?_⟩
  have : wl.heap.size = g := by simpa [Value.ownBlock] using hg
  subst this
  exact ⟨fun k => by have := h.aw.hf.lt _ k; omega, by have := Blk.lt h.aw.pool; omega, fun k => by have := (h.own.own.lt _ k).2; omega⟩
theorem tids_drop : ∀ (l : List (Int × Int)) (f : Nat), tids (l.drop f) = (tids l).drop (f * 2)
  | l, 0 => by simp
  | [], f + 1 => by simp [tids]
  | x :: l, f + 1 => by
    show tids (l.drop f) = List.drop ((f + 1) * 2) (_ :: _ :: tids l)
    rw [show (f + 1) * 2 = f * 2 + 1 + 1 by omega]
    exact tids_drop l f
theorem tids_take : ∀ (l : List (Int × Int)) (f : Nat), tids (l.take f) = (tids l).take (f * 2)
  | l, 0 => by simp [tids]
  | [], f + 1 => by simp [tids]
  | x :: l, f + 1 => by
    show _ :: _ :: tids (l.take f) = List.take ((f + 1) * 2) (_ :: _ :: tids l)
    rw [show (f + 1) * 2 = f * 2 + 1 + 1 by omega, tids_take l f]
    rfl
/-- the places from one on, and up to one, as what is appended -/
theorem own_drop {g f n : Nat} (h : wl.ownsRow w.heap.size 30 2 (.slice (some ⟨g, 0, none⟩) n c) n (tids pl)) (hf : f < n) (hp : pl.length = n) : Lies wl wl.heap.size 2 (.slice (some ((⟨g, 0, none⟩ : Addr).add (f * 2))) (n - f) (c - f)) (n - f) (tids (pl.drop f)) := by
  rcases h.2 with ⟨h1, h2⟩ | ⟨g', cap, cur, hv, hb, hg, hn, hm, hs, ht⟩
  · exact absurd h2 (by omega)
  · injection hv with h1 h2 h3
    injection h1 with h1; injection h1 with h1
    subst h1 h3
    have hcs := h.cells (g := g) rfl
    have hlt : g < wl.heap.size := Blk.lt hg
    have e := tids_drop pl f
    have hA : At wl wl.heap.size ⟨g, 0, none⟩ (tids pl) := ⟨hlt, hcs⟩
    refine Lies.some_ ?_ (by rw [tids_len, List.length_drop, hp]) (by omega)
    rw [e]
    exact hA.drop (f * 2)
theorem own_take {g f n : Nat} (h : wl.ownsRow w.heap.size 30 2 (.slice (some ⟨g, 0, none⟩) n c) n (tids pl)) (hf : f < n) (hp : pl.length = n) : Lies wl wl.heap.size 2 (.slice (some ⟨g, 0, none⟩) f c) f (tids (pl.take f)) := by
  rcases h.2 with ⟨h1, h2⟩ | ⟨g', cap, cur, hv, hb, hg, hn, hm, hs, ht⟩
  · exact absurd h2 (by omega)
  · injection hv with h1 h2 h3
    injection h1 with h1; injection h1 with h1
    subst h1 h3
    have hcs := h.cells (g := g) rfl
    have hlt : g < wl.heap.size := Blk.lt hg
    have e := tids_take pl f
    have hA : At wl wl.heap.size ⟨g, 0, none⟩ (tids pl) := ⟨hlt, hcs⟩
    refine Lies.some_ ?_ (by rw [tids_len, List.length_take]; congr 1; omega) (by omega)
    rw [e]
    exact hA.take (f * 2)
theorem tids_one (l : List (Int × Int)) : ∀ u ∈ tids l, u.oneCell' = true := by
  intro u hu
  unfold tids at hu
  rw [List.mem_flatMap] at hu
  obtain ⟨x, _, hx⟩ := hu
  simp at hx
  rcases hx with rfl | rfl <;> rfl
end
theorem cells2 {w : World} {base n c g k : Nat} {l : List (Int × Int)} (h : w.ownsRow base 30 2 (.slice (some ⟨g, 0, none⟩) n c) n (tids l)) {x : Int × Int} (hx : l[k]? = some x) : w.cell? ⟨g, k * 2, none⟩ = some (.int .i64 x.1) ∧ w.cell? ⟨g, k * 2 + 1, none⟩ = some (.int .i64 x.2) := by
  have hcs := h.cells (g := g) rfl
  obtain ⟨q1, q2⟩ := tids_at l k x hx
  have h1 := hcs _ _ q1
  have h2 := hcs _ _ q2
  rw [add_flat] at h1 h2
  exact ⟨h1, h2⟩
theorem own_ptr {w : World} {base n c k : Nat} {A : Option Addr} {l : List (Int × Int)} (h : w.ownsRow base 30 2 (.slice A n c) n (tids l)) (hk : k < n) : ∃ g, A = some ⟨g, 0, none⟩ := by
  rcases h.2 with ⟨h1, h2⟩ | ⟨g', cap, cur, hv, _⟩
  · exact absurd h2 (by omega)
  · injection hv with h1 _ _
    exact ⟨g', h1⟩
theorem chain_q {b w : World} {F : Nat → Prop} {H PL : Nat} {l : List PgE} (h : HF b w F H PL l) {R : List (Int × Int)} {E : Int × Int} (hp : Path l R E) (hin : ∀ (j : Nat) (x : Int × Int), (R ++ [E])[j]? = some x → Nums.In64 x.1 ∧ Nums.In64 x.2) {n : Nat} (hn : R.length = n) (hr : n ≤ 1000) {p0 s0 : Int} (hx0 : (R ++ [E])[0]? = some (p0, s0)) :
    Calls Try.prog 55 #[.pointer (some ⟨H, 0, none⟩), .agg #[.int .i64 p0, .int .i64 s0]] w fun e w' => ∃ A c, e = .returned (.slice A n c) ∧ w'.ownsRow w.heap.size 30 2 (.slice A n c) n (tids R) ∧ Below w.heap.size w w' := by
  subst hn
  exact chain_any h hp hin hr hx0
theorem path_none {l : List PgE} (h : l.length ≤ 20) : Path l [] (99, 0) :=
  ⟨fun j x hj => by simp at hj, fun i j x hi => by simp at hi, .inl (cont_high l (show (l.length : Int) ≤ 99 by omega) 0)⟩
theorem sl2 {w : World} {B n c : Nat} {A : Option Addr} {xs : List Value} (h : w.ownsRow B 30 2 (.slice A n c) n xs) : Sl w w.heap.size 2 A n c xs := by
  obtain ⟨A', c', hv, hs⟩ := Sl.of_own h
  injection hv with h1 _ h3
  subst h1 h3
  exact hs
theorem same7 {w : World} {base base2 n c d : Nat} {A B : Option Addr} {l : List (Int × Int)} (hn : l.length = n) (h : w.ownsRow base 30 2 (.slice A n c) n (tids l)) (k : w.ownsRow base2 30 2 (.slice B n d) n (tids l)) (hm : n ≤ 1000) :
    Calls Try.prog 54 #[.slice A n c, .slice B n d] w fun e w' => e = .returned (.bool true) ∧ ∃ m, w' = w.drewN m := by
  have H := Lib.hid h
  have K := Lib.hid k
  have HN := Lib.hid hn
  have hs1 := sl2 h
  have hs2 := sl2 k
  have hle := hs1.le
  have hcap := hs1.cap
  have hle2 := hs2.le
  have hcap2 := hs2.cap
  unfold maxLen at hcap hcap2
  have hnn : ((n : Int) != (n : Int)) = false := by simp
  clear h k hn hs1 hs2
  go_enter Try.func54, Try.ntmps54
  go_wp2_with fail
  go_loopw [13] (fun i wr => ∃ k q : Nat, k ≤ n ∧ i = .int .i64 k ∧ wr = w.drewN q) (fun i _ => n - (intOf i).toNat)
  case atStart => exact ⟨0, 0, by omega, rfl, rfl⟩
  case round =>
    obtain ⟨k, q, hk, rfl, hq⟩ := hrel
    have HQ := Lib.hid hq
    by_cases hlt : k < n
    · obtain ⟨x, hx⟩ : ∃ x, l[k]? = some x := ⟨_, List.getElem?_eq_getElem (by rw [HN.out]; exact hlt)⟩
      obtain ⟨g, rfl⟩ := own_ptr H.out hlt
      obtain ⟨g2, rfl⟩ := own_ptr K.out hlt
      have y0 : wr.cell? ⟨g, k * 2, none⟩ = some (.int .i64 x.1) := by rw [hq]; exact (cells2 H.out hx).1
      have y1 : wr.cell? ⟨g, k * 2 + 1, none⟩ = some (.int .i64 x.2) := by rw [hq]; exact (cells2 H.out hx).2
      have y2 : wr.cell? ⟨g2, k * 2, none⟩ = some (.int .i64 x.1) := by rw [hq]; exact (cells2 K.out hx).1
      have y3 : wr.cell? ⟨g2, k * 2 + 1, none⟩ = some (.int .i64 x.2) := by rw [hq]; exact (cells2 K.out hx).2
      obtain ⟨x1, x2⟩ := x
      have hlt' : (k : Int) < n := by omega
      have ha : ((x1 : Int) != x1) = false := by simp
      have hb : ((x2 : Int) != x2) = false := by simp
      clear hq hx
      go_wp2_with fail
      go_quiet (fail)
      go_wp2_with fail
      go_roundw
      case rel => exact ⟨k + 1, q + nq, by omega, by go_num, by rw [HQ.out, World.drewN_drewN]⟩
      case measure => simp [intOf]; omega
    · obtain rfl : k = n := by omega
      clear hq
      go_wp2_with fail
      go_ret
      exact ⟨rfl, q, HQ.out⟩
end Go.Proofs.Ythghnhcopmmmpaa.Hea
/- HeapChains: its walk. -/
namespace Go.Proofs.Ythghnhcopmmmpaa.Hea
open Go.RowKit Go.Proofs.Ythghnhcopmmmpaa.Nums Go.Proofs.Ythghnhcopmmmpaa.Mem Go.Proofs.Ythghnhcopmmmpaa.Room
set_option linter.unusedVariables false
set_option linter.unusedSimpArgs false
set_option maxRecDepth 100000
set_option maxHeartbeats 4000000
def d50 : List UInt8 := List.replicate 50 0
theorem d50_len : d50.length = 50 := List.length_replicate ..
theorem tu50 : tuOk 1 1 0 (-1) (-1) d50.length = true := by rw [d50_len]; decide
theorem nxt50 : nxt (mkV 1 1 0 (-1) (-1) d50) = (-1, -1) := rfl
theorem in64_s {x : Int} (h : -1 ≤ x ∧ x ≤ 300) : Nums.In64 x := by unfold Nums.In64; omega
theorem chains_walk (w : World) (nz fz : Int) (bz : Bool) (hn : 0 ≤ nz ∧ nz ≤ 255) (hf : 0 ≤ fz ∧ fz ≤ 255) :
    Calls Try.prog 11 #[.int .u8 nz, .int .u8 fz, .bool bz] w fun e w' => e = .returned (.bool true) ∧ Below w.heap.size w w' := by
  obtain ⟨nn, rfl⟩ : ∃ nn : Nat, nz = nn := ⟨nz.toNat, by omega⟩
  obtain ⟨fn, rfl⟩ : ∃ fn : Nat, fz = fn := ⟨fz.toNat, by omega⟩
  obtain ⟨m0, hm0⟩ : ∃ m0, nn % 20 = m0 := ⟨_, rfl⟩
  have hm20 : m0 < 20 := by omega
  have e1 : Int.tmod (nn : Int) 20 = m0 := by rw [← hm0]; exact (Int.ofNat_tmod nn 20).symm
  have e2 : (nn : Int) % 20 = m0 := by omega
  obtain ⟨k, hk⟩ : ∃ k, 1 + m0 = k := ⟨_, rfl⟩
  have e3 : (1 : Int) + (m0 : Int) = k := by omega
  have HK : Hid (1 ≤ k ∧ k ≤ 20) := Lib.hid (by omega)
  have hk20 : k ≤ 20 := by omega
  have hk1 : 1 ≤ k := by omega
  have hf0 := hf.1
  have hf1 := hf.2
  have hn0 := hn.1
  have hn1 := hn.2
  have hm0n : (0 : Int) ≤ m0 := by omega
  have hm0b : (m0 : Int) ≤ 19 := by omega
  clear hn hf hm0 hk
  go_enter Try.func11, Try.ntmps11
  go_wp2_with fail
  refine (awake7 _).mono ?_
  rintro e w0 ⟨rfl, hb0⟩
  have HB0 := Lib.hid hb0
  clear hb0
  have CPN := pool_new 20 (by omega) w0
  push_cast at CPN
  go_wp2_with fail
  refine CPN.mono ?_
  rintro e w1 ⟨rfl, hp1, hb1⟩
  clear CPN
  obtain ⟨PL, hPL⟩ : ∃ PL, w0.heap.size = PL := ⟨_, rfl⟩
  rw [hPL] at hp1 ⊢
  have HP1 := Lib.hid hp1
  have HB1 := Lib.hid (bel_trans HB0.out hb1)
  have HPG : Hid (w.heap.size ≤ PL) := Lib.hid (by rw [← hPL]; exact HB0.out.size)
  clear hp1 hb1 hPL
  go_wp2_with fail
  refine (new_s (w := w) PL HB1.out.size (Blk.lt HP1.out)).mono ?_
  rintro e w2 ⟨H, rfl, hf2, hb2⟩
  obtain ⟨F2, hF2⟩ : ∃ F2, New (fun _ => False) w1 w2 = F2 := ⟨_, rfl⟩
  rw [hF2] at hf2
  have A2 : Hid (AW w w2 F2 H PL [] 20) := Lib.hid ⟨hf2, Blk.below HP1.out hb2 (Blk.lt HP1.out), bel_trans HB1.out hb2, HPG.out⟩
  have S5 : Hid (SP w w2 F2 H PL [] 20 none 0 []) := Lib.hid ⟨A2.out, ⟨World.ownsRow_nil _ _ _ _⟩, fun g hg => by simp [Value.ownBlock] at hg⟩
  clear hf2 hb2 hF2 HP1 HB1 HB0 HPG A2
  go_wp2_with fail
  go_loopw [11, 30] (fun lv iv wl => ∃ (j : Nat) (F : Nat → Prop) (l : List PgE) (kk : Nat) (A : Option Addr) (c : Nat) (pl : List (Int × Int)), j ≤ k ∧ iv = .int .i64 j ∧ lv = .slice A j c ∧ pl.length = j ∧ SP w wl F H PL l kk A c pl ∧ l.length ≤ j ∧ l.length + kk = 20 ∧ ChL l pl 0) (fun _ iv _ => k - (intOf iv).toNat)
  case atStart => exact ⟨0, _, _, _, _, _, _, by omega, rfl, rfl, rfl, S5.out, by simp, rfl, ChL.nil _⟩
  case round =>
    obtain ⟨j, F, l, kk, A, c, pl, hj, rfl, rfl, hpk, hsm, hlk, hsum, hch⟩ := hrel
    have HSM := Lib.hid hsm
    have HPK := Lib.hid hpk
    have HSU := Lib.hid (And.intro hlk hsum)
    have HCH := Lib.hid hch
    clear hsm hpk hlk hsum hch S5
    by_cases hlt : j < k
    · have hlt' : (j : Int) < k := by omega
      have hmk := make_u8 50 (by omega) wr
      obtain ⟨gd, hgd⟩ : ∃ gd, wr.heap.size = gd := ⟨_, rfl⟩
      obtain ⟨w5, hw5⟩ : ∃ w5, wr.alloc (.cells (u8s (List.replicate 50 0)).toArray 5) = w5 := ⟨_, rfl⟩
      rw [hgd, hw5] at hmk
      push_cast at hmk
      have S5' := Lib.hid (HSM.out.below (show Below wr.heap.size wr w5 by rw [← hw5]; exact bel_alloc _ _))
      have D5 : Hid (Sl w5 w5.heap.size 1 (some ⟨gd, 0, none⟩) 50 50 (u8s d50)) := Lib.hid (by
        have hbb : BB w5 gd 5 d50 := by rw [← hw5, ← hgd]; exact Blk.new wr _ _
        have h := BB.sl hbb 0 50 50 (by rw [d50_len]; omega) (Nat.le_refl _) (by unfold maxLen; omega)
        rwa [List.drop_zero, List.take_of_length_le (by rw [d50_len]; exact Nat.le_refl _)] at h)
      clear hgd hw5
      go_wp2_with fail
      clear hmk
      refine (ins_s S5'.out.aw.hf S5'.out.aw.pool S5'.out.aw.bel.size (by have := HSU.out; omega) 1 1 0 (-1) (-1) d50 d50_len D5.out).mono ?_
      rintro e w6 ⟨pg, sl, er, l', k', rfl, hi, hf, hp, ht⟩
      have hiln := ins_len_f hi
      obtain ⟨rfl, hnone, hcont, hus', _, hlen⟩ := hi.cont tu50 (by have := HSU.out; omega)
      have HQ := Lib.hid (And.intro hnone (And.intro hcont (And.intro hlen hiln)))
      have S6 := Lib.hid (S5'.out.turn hf hp ht)
      obtain ⟨F6, hF6⟩ : ∃ F6, New F w5 w6 = F6 := ⟨_, rfl⟩
      rw [hF6] at S6
      clear hi hf hp ht hnone hcont hus' hlen hiln hF6
      obtain ⟨T6, hT6⟩ : ∃ T6, w6.heap.size = T6 := ⟨_, rfl⟩
      obtain ⟨w7, hw7⟩ : ∃ w7, w6.alloc (.cells #[.int .i64 pg, .int .i64 sl] 30) = w7 := ⟨_, rfl⟩
      have S7 : Hid (SP w w7 F6 H PL l' k' A c pl) := Lib.hid (by rw [← hw7]; exact S6.out.below (bel_alloc _ _))
      have X7 : Hid (Blk w7 T6 30 #[.int .i64 pg, .int .i64 sl]) := Lib.hid (by rw [← hw7, ← hT6]; exact Blk.new w6 _ _)
      have HW7 := Lib.hid (And.intro hw7 hT6)
      clear hw7 hT6 S6
      go_upto_region 10 with fail
      rw [HW7.out.1, HW7.out.2]
      have y0 := X7.out.cell 0
      have y1 := X7.out.cell 1
      have O7 : Hid (w7.ownsRow w.heap.size 30 2 (.slice A j c) j (tids pl)) := Lib.hid (by have := S7.out.own.own; rwa [HPK.out] at this)
      have hB7 := S7.out.aw.bel.size
      go_upto_region 13 with (at_builtin; go_loud (refine wpl_app_t rfl (.tmp 42) (.tmp 44) rfl w.heap.size _ j (tids pl) rfl (World.ownsRow.alloc O7.out _) _ _ 1 (tids [(pg, sl)]) rfl (lies_at _ #[.int .i64 pg, .int .i64 sl] _ 2 1 w7.heap.size rfl rfl) (fun u hu => by simp [tids] at hu; rcases hu with rfl | rfl <;> rfl) (by omega) (by rw [size_alloc]; omega) ?_; intro v1 w8 hown1 hg1; obtain ⟨A1, c1, hv1, _⟩ := Sl.of_own hown1; subst hv1))
      have S8 := Lib.hid ((S7.out.below (bel_alloc w7 (.cells #[.int .i64 pg, .int .i64 sl] 30))).app (x := (pg, sl)) (A' := A1) (c' := c1) (by rw [HPK.out]; exact hown1) (by rw [HPK.out]; exact hg1))
      clear hown1 hg1 y0 y1 hB7
      go_wp2_with fail
      go_roundw
      case rel => exact ⟨j + 1, F6, l', k', A1, c1, _, by omega, by go_num, by first | rfl | (congr 1), by rw [List.length_append, HPK.out]; rfl, S8.out, by have := HSU.out; have := HQ.out; omega, by have := HSU.out; have := HQ.out; omega, HCH.out.app HQ.out.1 HQ.out.2.1 nxt50⟩
      case measure => simp [intOf]; omega
    · obtain rfl : j = k := by omega
      obtain ⟨f, hfe⟩ : ∃ f, fn % j = f := ⟨_, rfl⟩
      have hfj : f < j := by rw [← hfe]; exact Nat.mod_lt _ (by omega)
      have e5 : Int.tmod (fn : Int) (j : Int) = f := by rw [← hfe]; exact (Int.ofNat_tmod fn j).symm
      have e6 : (fn : Int) % (j : Int) = f := by rw [← hfe]; first | exact (Int.natCast_emod fn j).symm | rfl
      have q1 : ¬ (j : Int) = 0 := by omega
      have q2 : ((j : Int) == 0) = false := by rw [beq_eq_false_iff_ne]; omega
      have q3 : (1 : Int) ≤ j := by omega
      have q4 : (j : Int) ≤ 20 := by omega
      obtain ⟨g, rfl⟩ := own_ptr (by have := HSM.out.own.own; rwa [HPK.out] at this) (show 0 < j by omega)
      have HFJ := Lib.hid hfj
      clear hfe hj
      go_wp2_with fail
      go_loopw [49] (fun iv wl => ∃ (i : Nat) (l' : List PgE), i + 1 ≤ j ∧ iv = .int .i64 i ∧ SP w wl F H PL l' kk (some ⟨g, 0, none⟩) c pl ∧ l'.length = l.length ∧ ChL l' pl i) (fun iv _ => j - (intOf iv).toNat)
      case atStart => exact ⟨0, l, by omega, rfl, HSM.out, rfl, HCH.out⟩
      case round =>
        obtain ⟨i, l', hi, rfl, hsp, hll, hch⟩ := hrel
        have HT := Lib.hid hsp
        have HLL := Lib.hid hll
        have HCI := Lib.hid hch
        clear hsp hll hch HSM
        obtain ⟨O1, hO1⟩ : ∃ O1 : Prop, O1 = (wr.ownsRow w.heap.size 30 2 (.slice (some ⟨g, 0, none⟩) j c) j (tids pl)) := ⟨_, rfl⟩
        have HO : Hid (wr.ownsRow w.heap.size 30 2 (.slice (some ⟨g, 0, none⟩) j c) j (tids pl)) := Lib.hid (by have := HT.out.own.own; rwa [HPK.out] at this)
        have hcap := (sl2 HO.out).cap
        have hcle := (sl2 HO.out).le
        unfold maxLen at hcap
        clear hO1
        by_cases hlt2 : i + 1 < j
        · have z1 : (i : Int) < (j : Int) - 1 := by omega
          have z2 : (i : Int) + 1 < j := by omega
          have z3 : (i : Int) < j := by omega
          have z4 : IntKind.i64.wrap ((i : Int) + 1) = (i : Int) + 1 := IntWalk.i64_in _ (by omega)
          have z5 : ((i : Int) + 1).toNat = i + 1 := by omega
          have z6 : (0 : Int) ≤ (i : Int) + 1 := by omega
          obtain ⟨x, hx⟩ : ∃ x, pl[i]? = some x := ⟨_, List.getElem?_eq_getElem (by rw [HPK.out]; omega)⟩
          obtain ⟨y, hy⟩ : ∃ y, pl[i + 1]? = some y := ⟨_, List.getElem?_eq_getElem (by rw [HPK.out]; omega)⟩
          obtain ⟨v1, c1, _⟩ := HCI.out.con i x hx
          obtain ⟨v2, c2, _⟩ := HCI.out.con (i + 1) y hy
          have HX := Lib.hid hx
          have HY := Lib.hid hy
          clear hx hy
          obtain ⟨x1, x2⟩ := x
          obtain ⟨b1, b2⟩ := y
          have hcel : ∀ W : World, W.ownsRow w.heap.size 30 2 (.slice (some ⟨g, 0, none⟩) pl.length c) pl.length (tids pl) → W.cell? ⟨g, i * 2, none⟩ = some (.int .i64 x1) ∧ W.cell? ⟨g, i * 2 + 1, none⟩ = some (.int .i64 x2) ∧ W.cell? ⟨g, (i + 1) * 2, none⟩ = some (.int .i64 b1) ∧ W.cell? ⟨g, (i + 1) * 2 + 1, none⟩ = some (.int .i64 b2) := fun W hW => ⟨(cells2 hW HX.out).1, (cells2 hW HX.out).2, (cells2 hW HY.out).1, (cells2 hW HY.out).2⟩
          have Y0 := Lib.hid (hcel wr HT.out.own.own)
          have HCEL := Lib.hid hcel
          obtain ⟨y0, y1, y2, y3⟩ := Y0.out
          have CS := Lib.hid (stamp_p (HT.out.below (⟨rfl, rfl, rfl, Nat.le_refl _, fun _ _ => rfl⟩ : Below wr.heap.size wr wr.drew)) (by have := HSU.out; have := HLL.out; omega) c1 c2)
          clear c1 c2 hcel
          go_upto_region 17 with fail
          go_region_held3 (fun w' => w'.cell? ⟨g, i * 2, none⟩ = some (.int .i64 x1) ∧ w'.cell? ⟨g, i * 2 + 1, none⟩ = some (.int .i64 x2) ∧ w'.cell? ⟨g, (i + 1) * 2, none⟩ = some (.int .i64 b1) ∧ w'.cell? ⟨g, (i + 1) * 2 + 1, none⟩ = some (.int .i64 b2)) (first | with_reducible exact Y9.out | with_reducible exact Y0.out | with_reducible exact ⟨y0, y1, y2, y3⟩ | go_keep)
            (first
              | (go_at_call 45; refine CS.out.mono ?_; rintro e w9 ⟨⟨r9, rfl⟩, l9, v9, hs9, hl9, hc9, hv9, ht9⟩; have Y9 := Lib.hid (HCEL.out w9 hs9.own.own); have S9 := Lib.hid hs9; have Q9 := Lib.hid (And.intro hl9 (And.intro hc9 hv9)); clear hs9 hl9 hc9 hv9 ht9))
          go_wp2_with fail
          go_roundw
          case rel => exact ⟨i + 1, l9, by omega, by go_num, S9.out, by rw [Q9.out.1]; exact HLL.out, HCI.out.stamp HX.out HY.out Q9.out.2.1 Q9.out.2.2⟩
          case measure => simp [intOf]; omega
        · have z1 : ¬ (i : Int) < (j : Int) - 1 := by omega
          have hie : i = j - 1 := by omega
          subst hie
          clear hi hlt2
          have hfc : ¬ f = c := by have := HFJ.out; omega
          have hfle : f ≤ j := by have := HFJ.out; omega
          have hfI : (f : Int) ≤ c := by omega
          have hfJ : (f : Int) ≤ j := by omega
          have HOD := Lib.hid (own_drop (HT.out.below (bel_alloc wr (.cells #[] 30))).own.own (by rw [HPK.out]; exact HFJ.out) rfl)
          rw [add_flat, HPK.out] at HOD
          have HW0 := Lib.hid HT.out.want
          have hbs := HT.out.aw.bel.size
          have hjf : j - f ≤ 20 := by have := HK.out; omega
          go_upto_region 21 with (at_builtin; go_loud (refine wpl_app_t rfl (.tmp 68) (.tmp 71) rfl w.heap.size _ 0 [] rfl HW0.out.own _ _ (j - f) (tids (pl.drop f)) rfl HOD.out (tids_one _) (by omega) (by rw [size_alloc]; omega) ?_; intro v1 w8 hown1 hg1; obtain ⟨A1, c1, hv1, _⟩ := Sl.of_own hown1; subst hv1))
          have HS1 := Lib.hid (HW0.out.app (m := j - f) (us := pl.drop f) hown1 hg1)
          clear hown1 hg1
          rw [Nat.zero_add] at HS1
          obtain ⟨q, hq⟩ : ∃ q, j - f = q := ⟨_, rfl⟩
          rw [hq] at HS1 ⊢
          have HQ1 := Lib.hid hq
          have HLB : Hid (l'.length ≤ 20) := Lib.hid (by have := HSU.out; have := HLL.out; omega)
          have HPI : Hid (∀ (i : Nat) (x : Int × Int), pl[i]? = some x → Nums.In64 x.1 ∧ Nums.In64 x.2) := Lib.hid (fun i x hi => by
            obtain ⟨v, h1, _⟩ := HCI.out.con i x hi
            have := HT.out.aw.hf.right (by have := HLB.out; omega) h1
            exact ⟨in64_s (by omega), in64_s (by omega)⟩)
          clear hq hbs
          cases bz
          · obtain ⟨ws, hws⟩ : ∃ ws, ([] : List (Int × Int)) ++ pl.drop f = ws := ⟨_, rfl⟩
            rw [hws] at HS1
            have hws2 : pl.drop f = ws := by rw [← hws]; rfl
            obtain ⟨E, hE⟩ : ∃ E : Int × Int, (-1, -1) = E := ⟨_, rfl⟩
            have HPT : Hid (Path l' ws E) := Lib.hid (by rw [← hws2, ← hE]; exact HCI.out.path HPK.out HFJ.out)
            have HQL : Hid (ws.length = q) := Lib.hid (by rw [← hws2, List.length_drop, HPK.out, ← HQ1.out])
            have HQB : Hid (q ≤ 20) := Lib.hid (by rw [← HQ1.out]; omega)
            have HW00 : Hid ((ws ++ [E])[0]? = pl[f]?) := Lib.hid (by rw [← hws2, List.getElem?_append_left (by rw [List.length_drop, HPK.out]; have := HFJ.out; omega), List.getElem?_drop]; rfl)
            have HIN : Hid (∀ (i : Nat) (x : Int × Int), (ws ++ [E])[i]? = some x → Nums.In64 x.1 ∧ Nums.In64 x.2) := Lib.hid (fun i x hi => by
              have hm := List.mem_of_getElem? hi
              rw [List.mem_append] at hm
              rcases hm with hm | hm
              · rw [← hws2] at hm
                obtain ⟨t, ht⟩ := List.getElem?_of_mem (List.mem_of_mem_drop hm)
                exact HPI.out t x ht
              · rw [List.mem_singleton] at hm
                subst hm
                rw [← hE]
                exact ⟨in64_s (by show -1 ≤ (-1 : Int) ∧ (-1 : Int) ≤ 300; omega), in64_s (by show -1 ≤ (-1 : Int) ∧ (-1 : Int) ≤ 300; omega)⟩)
            obtain ⟨W9, hW9⟩ : ∃ W9, w8 = W9 := ⟨_, rfl⟩
            subst hW9
            have HSQ := HS1
            clear hws hws2 hE
            have HFS := Lib.hid HSQ.out.sp.aw.hf
            obtain ⟨⟨z1, z2⟩, hz⟩ : ∃ z, pl[f]? = some z := ⟨_, List.getElem?_eq_getElem (by rw [HPK.out]; exact HFJ.out)⟩
            have HZ0 : Hid ((ws ++ [E])[0]? = some (z1, z2)) := Lib.hid (by rw [← hz]; exact HW00.out)
            have y0 : w8.cell? ⟨g, f * 2, none⟩ = some (.int .i64 z1) := (cells2 HSQ.out.sp.own.own hz).1
            have y1 : w8.cell? ⟨g, f * 2 + 1, none⟩ = some (.int .i64 z2) := (cells2 HSQ.out.sp.own.own hz).2
            have hfi : (f : Int) < j := by have := HFJ.out; omega
            have CC := Lib.hid (chain_q HFS.out HPT.out HIN.out HQL.out (by have := HQB.out; omega) HZ0.out)
            clear hz
            go_wp2_with fail
            refine CC.out.mono ?_
            rintro e w5 ⟨A5, c5, rfl, hown5, hb5⟩
            have HOW := Lib.hid (own_keep HSQ.out.own fun g hg => hb5.block g (HSQ.out.own.lt g hg).2)
            have HO5 := Lib.hid hown5
            have HB5 := Lib.hid hb5
            have HF5 := Lib.hid (HFS.out.below hb5)
            have CS7 := Lib.hid (same7 HQL.out HO5.out HOW.out (by have := HQB.out; omega))
            clear hown5 hb5 y0 y1
            go_wp2_with fail
            refine CS7.out.mono ?_
            rintro e w6 ⟨rfl, m6, rfl⟩
            have CN := Lib.hid (chain_q (HF5.out.keep (w' := w5.drewN m6) (fun _ _ => rfl) (Nat.le_refl _)) (path_none HLB.out) (n := 0) (fun i x hi => by
              cases i with
              | zero => simp at hi; subst hi; exact ⟨in64_s (by show -1 ≤ (99 : Int) ∧ (99 : Int) ≤ 300; omega), in64_s (by show -1 ≤ (0 : Int) ∧ (0 : Int) ≤ 300; omega)⟩
              | succ i => simp at hi) rfl (by omega) (p0 := 99) (s0 := 0) rfl)
            go_wp2_with fail
            refine CN.out.mono ?_
            rintro e w7 ⟨A7, c7, rfl, _, hb7⟩
            have HB7 := Lib.hid hb7
            clear hb7
            go_wp2_with fail
            go_ret
            exact ⟨by first | rfl | simp, by
              have h1 := HSQ.out.sp.aw.bel.trans (HB5.out.mono HSQ.out.sp.aw.bel.size)
              have h2 : Below w.heap.size w (w5.drewN m6) := ⟨h1.os, h1.tape, h1.output, h1.size, h1.block⟩
              exact h2.trans (HB7.out.mono h2.size)⟩
          · obtain ⟨x, hx⟩ : ∃ x, pl[j - 1]? = some x := ⟨_, List.getElem?_eq_getElem (by rw [HPK.out]; omega)⟩
            obtain ⟨y, hy⟩ : ∃ y, pl[0]? = some y := ⟨_, List.getElem?_eq_getElem (by rw [HPK.out]; omega)⟩
            obtain ⟨v1, c1x, _⟩ := HCI.out.con (j - 1) x hx
            obtain ⟨v2, c2x, _⟩ := HCI.out.con 0 y hy
            have HX := Lib.hid hx
            have HY := Lib.hid hy
            clear hx hy
            obtain ⟨x1, x2⟩ := x
            obtain ⟨b1, b2⟩ := y
            have hcel : ∀ W : World, W.ownsRow w.heap.size 30 2 (.slice (some ⟨g, 0, none⟩) pl.length c) pl.length (tids pl) → W.cell? ⟨g, (j - 1) * 2, none⟩ = some (.int .i64 x1) ∧ W.cell? ⟨g, (j - 1) * 2 + 1, none⟩ = some (.int .i64 x2) ∧ W.cell? ⟨g, 0, none⟩ = some (.int .i64 b1) ∧ W.cell? ⟨g, 1, none⟩ = some (.int .i64 b2) := fun W hW => ⟨(cells2 hW HX.out).1, (cells2 hW HX.out).2, (cells2 hW HY.out).1, (cells2 hW HY.out).2⟩
            have Y0 := Lib.hid (hcel w8 HS1.out.sp.own.own)
            have HCEL := Lib.hid hcel
            obtain ⟨y0, y1, y2, y3⟩ := Y0.out
            have CS := Lib.hid (stamp_p (HS1.out.sp.below (⟨rfl, rfl, rfl, Nat.le_refl _, fun _ _ => rfl⟩ : Below w8.heap.size w8 w8.drew)) (by have := HLB.out; omega) c1x c2x)
            have u4 : IntKind.i64.wrap ((j : Int) - 1) = (j : Int) - 1 := IntWalk.i64_in _ (by omega)
            have u5 : ((j : Int) - 1).toNat = j - 1 := by omega
            have u6 : (0 : Int) ≤ (j : Int) - 1 := by omega
            have u7 : (j : Int) - 1 < j := by omega
            have u8 : (0 : Int) < j := by omega
            have u9 : 0 < j := by omega
            clear c1x c2x hcel
            go_upto_region 22 with fail
            go_region_held3 (fun w' => w'.cell? ⟨g, (j - 1) * 2, none⟩ = some (.int .i64 x1) ∧ w'.cell? ⟨g, (j - 1) * 2 + 1, none⟩ = some (.int .i64 x2) ∧ w'.cell? ⟨g, 0, none⟩ = some (.int .i64 b1) ∧ w'.cell? ⟨g, 1, none⟩ = some (.int .i64 b2)) (first | with_reducible exact Y9.out | with_reducible exact Y0.out | with_reducible exact ⟨y0, y1, y2, y3⟩ | go_keep)
              (first
                | (go_at_call 45; refine CS.out.mono ?_; rintro e w9 ⟨⟨r9, rfl⟩, l9, v9, hs9, hl9, hc9, hv9, ht9⟩; have Y9 := Lib.hid (HCEL.out w9 hs9.own.own); have S9 := Lib.hid (HS1.out.stamped hs9 (show Turn F w8 w9 from ⟨ht9.os, ht9.tape, ht9.output, ht9.size, ht9.block⟩)); have Q9 := Lib.hid (And.intro hl9 (And.intro hc9 hv9)); clear hs9 hl9 hc9 hv9 ht9))
            clear y0 y1 y2 y3 u4 u5 u6 u7 u8 u9 CS
            have HOT := Lib.hid (own_take S9.out.sp.own.own (by rw [HPK.out]; exact HFJ.out) rfl)
            have hbs := S9.out.sp.aw.bel.size
            have hqf : q + f ≤ 40 := by have := HQ1.out; have := HFJ.out; omega
            go_upto_region 24 with (at_builtin; go_loud (refine wpl_app_t rfl (.tmp 84) (.tmp 87) rfl w.heap.size _ q _ rfl S9.out.own _ _ f (tids (pl.take f)) rfl HOT.out (tids_one _) (by omega) (by omega) ?_; intro v1 wa hown1 hg1; obtain ⟨A1, c1, hv1, _⟩ := Sl.of_own hown1; subst hv1))
            have HS2 := Lib.hid (S9.out.app (m := f) (us := pl.take f) hown1 hg1)
            clear hown1 hg1 hbs
            obtain ⟨q2, hq2⟩ : ∃ q2, q + f = q2 := ⟨_, rfl⟩
            rw [hq2] at HS2 ⊢
            obtain ⟨ws, hws⟩ : ∃ ws, (([] : List (Int × Int)) ++ pl.drop f) ++ pl.take f = ws := ⟨_, rfl⟩
            rw [hws] at HS2
            have hws2 : pl.drop f ++ pl.take f = ws := by rw [← hws]; rfl
            obtain ⟨E, hE⟩ : ∃ E, pl[f]? = some E := ⟨_, List.getElem?_eq_getElem (by rw [HPK.out]; exact HFJ.out)⟩
            have HPT : Hid (Path l9 ws E) := Lib.hid (by rw [← hws2]; exact HCI.out.circle HPK.out HFJ.out HX.out HY.out hE Q9.out.2.1 Q9.out.2.2)
            have HQL : Hid (ws.length = q2) := Lib.hid (by rw [← hws2, List.length_append, List.length_drop, List.length_take, HPK.out, ← hq2, ← HQ1.out]; have := HFJ.out; omega)
            have HQB : Hid (q2 ≤ 40) := Lib.hid (by omega)
            have HW00 : Hid ((ws ++ [E])[0]? = pl[f]?) := Lib.hid (by rw [← hws2, List.getElem?_append_left (by rw [List.length_append, List.length_drop, HPK.out]; have := HFJ.out; omega), List.getElem?_append_left (by rw [List.length_drop, HPK.out]; have := HFJ.out; omega), List.getElem?_drop]; rfl)
            have HIN : Hid (∀ (i : Nat) (x : Int × Int), (ws ++ [E])[i]? = some x → Nums.In64 x.1 ∧ Nums.In64 x.2) := Lib.hid (fun i x hi => by
              have hm := List.mem_of_getElem? hi
              rw [List.mem_append] at hm
              rcases hm with hm | hm
              · rw [← hws2, List.mem_append] at hm
                rcases hm with hm | hm
                · obtain ⟨t, ht⟩ := List.getElem?_of_mem (List.mem_of_mem_drop hm)
                  exact HPI.out t x ht
                · obtain ⟨t, ht⟩ := List.getElem?_of_mem (List.mem_of_mem_take hm)
                  exact HPI.out t x ht
              · rw [List.mem_singleton] at hm
                subst hm
                exact HPI.out f _ hE)
            have HSQ := HS2
            clear hws hws2 hE hq2 HLB
            have HLB : Hid (l9.length ≤ 20) := Lib.hid (by rw [Q9.out.1]; have := HSU.out; have := HLL.out; omega)
            have HFS := Lib.hid HSQ.out.sp.aw.hf
            obtain ⟨⟨z1, z2⟩, hz⟩ : ∃ z, pl[f]? = some z := ⟨_, List.getElem?_eq_getElem (by rw [HPK.out]; exact HFJ.out)⟩
            have HZ0 : Hid ((ws ++ [E])[0]? = some (z1, z2)) := Lib.hid (by rw [← hz]; exact HW00.out)
            have y0 : wa.cell? ⟨g, f * 2, none⟩ = some (.int .i64 z1) := (cells2 HSQ.out.sp.own.own hz).1
            have y1 : wa.cell? ⟨g, f * 2 + 1, none⟩ = some (.int .i64 z2) := (cells2 HSQ.out.sp.own.own hz).2
            have hfi : (f : Int) < j := by have := HFJ.out; omega
            have CC := Lib.hid (chain_q HFS.out HPT.out HIN.out HQL.out (by have := HQB.out; omega) HZ0.out)
            clear hz
            go_wp2_with fail
            refine CC.out.mono ?_
            rintro e w5 ⟨A5, c5, rfl, hown5, hb5⟩
            have HOW := Lib.hid (own_keep HSQ.out.own fun g hg => hb5.block g (HSQ.out.own.lt g hg).2)
            have HO5 := Lib.hid hown5
            have HB5 := Lib.hid hb5
            have HF5 := Lib.hid (HFS.out.below hb5)
            have CS7 := Lib.hid (same7 HQL.out HO5.out HOW.out (by have := HQB.out; omega))
            clear hown5 hb5 y0 y1
            go_wp2_with fail
            refine CS7.out.mono ?_
            rintro e w6 ⟨rfl, m6, rfl⟩
            have CN := Lib.hid (chain_q (HF5.out.keep (w' := w5.drewN m6) (fun _ _ => rfl) (Nat.le_refl _)) (path_none HLB.out) (n := 0) (fun i x hi => by
              cases i with
              | zero => simp at hi; subst hi; exact ⟨in64_s (by show -1 ≤ (99 : Int) ∧ (99 : Int) ≤ 300; omega), in64_s (by show -1 ≤ (0 : Int) ∧ (0 : Int) ≤ 300; omega)⟩
              | succ i => simp at hi) rfl (by omega) (p0 := 99) (s0 := 0) rfl)
            go_wp2_with fail
            refine CN.out.mono ?_
            rintro e w7 ⟨A7, c7, rfl, _, hb7⟩
            have HB7 := Lib.hid hb7
            clear hb7
            go_wp2_with fail
            go_ret
            exact ⟨by first | rfl | simp, by
              have h1 := HSQ.out.sp.aw.bel.trans (HB5.out.mono HSQ.out.sp.aw.bel.size)
              have h2 : Below w.heap.size w (w5.drewN m6) := ⟨h1.os, h1.tape, h1.output, h1.size, h1.block⟩
              exact h2.trans (HB7.out.mono h2.size)⟩
end Go.Proofs.Ythghnhcopmmmpaa.Hea
