/- ref02.SameRow: two rows held against each other. -/
import Derived.Test.YtfabcnbblhadnaaDoorKeyOrd
import Derived.Test.YtfabcnbblhadnaaDoorLJoins
namespace Go.Proofs.YtfabcnbblhadnaaDoor.Mem
open Go.RowKit Go.Proofs.YtfabcnbblhadnaaDoor.Nums
open Go.Proofs.YtfabcnbblhadnaaDoor.Cell (U8 sameR lessR)
set_option linter.unusedVariables false
set_option linter.unusedSimpArgs false
set_option maxRecDepth 100000
attribute [local irreducible] wpQuiet
def same1 (a b : V) : Bool := (a.k == b.k) && a.same b
def sameRow (a b : List V) : Bool := decide (a.length = b.length) && (a.zip b).all fun p => same1 p.1 p.2
theorem sameZip_snoc {a b : List V} {k : Nat} {u v : V} (hu : a[k]? = some u) (hv : b[k]? = some v) : ((a.take (k + 1)).zip (b.take (k + 1))).all (fun p => same1 p.1 p.2) = (((a.take k).zip (b.take k)).all (fun p => same1 p.1 p.2) && same1 u v) := by
  have h1 := (List.getElem?_eq_some_iff.1 hu).1
  have h2 := (List.getElem?_eq_some_iff.1 hv).1
  rw [take_succ_of hu, take_succ_of hv, List.zip_append (by rw [List.length_take, List.length_take]; omega), List.all_append]
  simp
theorem sameZip_miss {a b : List V} {k : Nat} {u v : V} (hu : a[k]? = some u) (hv : b[k]? = some v) (h : same1 u v = false) : (a.zip b).all (fun p => same1 p.1 p.2) = false := by
  rw [List.all_eq_false]
  refine ⟨(u, v), ?_, by rw [h]; decide⟩
  apply List.mem_of_getElem? (i := k)
  rw [List.getElem?_zip_eq_some]
  exact ⟨hu, hv⟩
theorem sameRow_any (la lb : List V) (A : Option Addr) (n c : Nat) (A' : Option Addr) (n' c' : Nat) (w : World) (hla : la.length = n) (hlb : lb.length = n') (ha : Sl w w.heap.size 4 A n c (vals la)) (hb : Sl w w.heap.size 4 A' n' c' (vals lb)) :
    Calls Tryd.prog 20 #[.slice A n c, .slice A' n' c'] w fun e w' => e = .returned (.bool (sameRow la lb)) ∧ Below w.heap.size w w' := by
  have hcap := ha.cap
  have hcap' := hb.cap
  unfold maxLen at hcap hcap'
  have hle := ha.le
  have hle' := hb.le
  by_cases hnn : n' = n
  rotate_left
  · have hne : ((n : Int) == (n' : Int)) = false := by rw [beq_eq_false_iff_ne]; omega
    have hne2 : ((n : Int) != (n' : Int)) = true := by rw [bne, hne]; rfl
    have hne3 : ¬ (n : Int) = (n' : Int) := by omega
    have HR : Hid (sameRow la lb = false) := Lib.hid (by unfold sameRow; rw [decide_eq_false (by omega)]; rfl)
    clear ha hb hla hlb hnn
    go_enter Tryd.func20, Tryd.ntmps20
    go_wp2_with fail
    go_ret
    exact ⟨by rw [HR.out]; rfl, Below.refl _ _⟩
  subst hnn
  have HR : Hid (sameRow la lb = (la.zip lb).all fun p => same1 p.1 p.2) := Lib.hid (by unfold sameRow; rw [decide_eq_true (by omega)]; rfl)
  have HLA := Lib.hid hla
  have HLB := Lib.hid hlb
  have HSA := Lib.hid ha
  have HSB := Lib.hid hb
  clear ha hb hla hlb
  go_enter Tryd.func20, Tryd.ntmps20
  go_wp2_with fail
  go_loopw [13] (fun i wr => ∃ k : Nat, k ≤ n' ∧ i = .int .i64 k ∧ ((la.take k).zip (lb.take k)).all (fun p => same1 p.1 p.2) = true ∧ Below w.heap.size w wr) (fun i _ => n' - (intOf i).toNat)
  case atStart => exact ⟨0, by omega, rfl, rfl, Below.refl _ _⟩
  case round =>
    obtain ⟨k, hk, rfl, hall, hbr⟩ := hrel
    have HA := Lib.hid hall
    have HBR := Lib.hid hbr
    clear hall hbr
    by_cases hlt : k < n'
    · have hlt' : (k : Int) < n' := by omega
      have hk0 : (0 : Int) ≤ (k : Int) := Int.natCast_nonneg _
      obtain ⟨a, hva⟩ : ∃ v, la[k]? = some v := ⟨_, List.getElem?_eq_getElem (by rw [HLA.out]; exact hlt)⟩
      obtain ⟨b, hvb⟩ : ∃ v, lb[k]? = some v := ⟨_, List.getElem?_eq_getElem (by rw [HLB.out]; exact hlt)⟩
      obtain ⟨ad, hA, hAt⟩ := HSA.out.at_ (by omega)
      obtain ⟨ad', hA', hAt'⟩ := HSB.out.at_ (by omega)
      subst hA hA'
      have HVA : Hid (ValAt wr (ad.add (k * 4)) a) := Lib.hid ((hAt.below HBR.out).val hva)
      have HVB : Hid (ValAt wr (ad'.add (k * 4)) b) := Lib.hid ((hAt'.below HBR.out).val hvb)
      have HS1 := Lib.hid (sameZip_snoc hva hvb)
      have HS2 := Lib.hid (fun (h : same1 a b = false) => sameZip_miss hva hvb h)
      have HS3 : Hid (same1 a b = ((a.k == b.k) && a.same b)) := Lib.hid rfl
      clear hva hvb hAt hAt'
      have S0 := fun w => Cell.sameR_any a.k a.i a.s a.b b.k b.i b.s b.b w
      have es : sameR a.k a.i a.s a.b b.k b.i b.s b.b = a.same b := rfl
      rw [es] at S0
      clear es
      cases hkk : (a.k == b.k)
      · have hs1 : same1 a b = false := by rw [HS3.out, hkk]; rfl
        have hkn : (a.k != b.k) = true := by rw [bne, hkk]; rfl
        have HF := Lib.hid (HS2.out hs1)
        clear S0 hs1 HS1 HS2 HS3
        go_wp2_with fail
        have x0 := cell_regrown HVA.out.c0
        have x1 := cell_regrown HVA.out.c1
        have x2 := cell_regrown HVA.out.c2
        have x3 := cell_regrown HVA.out.c3
        have y0 := cell_regrown HVB.out.c0
        have y1 := cell_regrown HVB.out.c1
        have y2 := cell_regrown HVB.out.c2
        have y3 := cell_regrown HVB.out.c3
        refine wp_region_quiet_below (by kernel_rfl) (by kernel_rfl) ?_
        repeat (quiet_step (first | fail))
        refine wpQuiet_nil ?_
        intro _ hw'
        obtain ⟨⟨dq, osq⟩, hw''⟩ := hw'
        subst hw''
        have HBQ := Lib.hid (below_regrown wr dq osq)
        clear x0 x1 x2 x3 y0 y1 y2 y3
        generalize Go.Sort.grow (redrawn wr dq) osq = w5 at *
        go_wp2_with fail
        go_ret
        exact ⟨by rw [HR.out, HF.out]; rfl, Cell.bel_trans HBR.out HBQ.out⟩
      · have hkn : (a.k != b.k) = false := by rw [bne, hkk]; rfl
        cases hsm : a.same b
        · have hs1 : same1 a b = false := by rw [HS3.out, hsm, Bool.and_false]
          have HF := Lib.hid (HS2.out hs1)
          rw [hsm] at S0
          have SS := Lib.hid S0
          clear S0 hs1 hsm HS1 HS2 HS3
          go_wp2_with fail
          have x0 := cell_regrown HVA.out.c0
          have x1 := cell_regrown HVA.out.c1
          have x2 := cell_regrown HVA.out.c2
          have x3 := cell_regrown HVA.out.c3
          have y0 := cell_regrown HVB.out.c0
          have y1 := cell_regrown HVB.out.c1
          have y2 := cell_regrown HVB.out.c2
          have y3 := cell_regrown HVB.out.c3
          have q0 := fun d os => Calls.regrown_of (w := wr) (d := d) (os := os) (SS.out _)
          refine wp_region_quiet_below (by kernel_rfl) (by kernel_rfl) ?_
          repeat (quiet_step (first | (with_reducible exact q0 _ _)))
          refine wpQuiet_nil ?_
          intro _ hw'
          obtain ⟨⟨dq, osq⟩, hw''⟩ := hw'
          subst hw''
          have HBQ := Lib.hid (below_regrown wr dq osq)
          clear x0 x1 x2 x3 y0 y1 y2 y3 q0
          generalize Go.Sort.grow (redrawn wr dq) osq = w5 at *
          go_wp2_with fail
          go_ret
          exact ⟨by rw [HR.out, HF.out]; rfl, Cell.bel_trans HBR.out HBQ.out⟩
        · have hs1 : same1 a b = true := by rw [HS3.out, hkk, hsm]; rfl
          have HT := Lib.hid hs1
          rw [hsm] at S0
          have SS := Lib.hid S0
          clear S0 hs1 hsm HS2 HS3
          go_wp2_with fail
          have x0 := cell_regrown HVA.out.c0
          have x1 := cell_regrown HVA.out.c1
          have x2 := cell_regrown HVA.out.c2
          have x3 := cell_regrown HVA.out.c3
          have y0 := cell_regrown HVB.out.c0
          have y1 := cell_regrown HVB.out.c1
          have y2 := cell_regrown HVB.out.c2
          have y3 := cell_regrown HVB.out.c3
          have q0 := fun d os => Calls.regrown_of (w := wr) (d := d) (os := os) (SS.out _)
          refine wp_region_quiet_below (by kernel_rfl) (by kernel_rfl) ?_
          repeat (quiet_step (first | (with_reducible exact q0 _ _)))
          refine wpQuiet_nil ?_
          intro _ hw'
          obtain ⟨⟨dq, osq⟩, hw''⟩ := hw'
          subst hw''
          have HBQ := Lib.hid (below_regrown wr dq osq)
          clear x0 x1 x2 x3 y0 y1 y2 y3 q0
          generalize Go.Sort.grow (redrawn wr dq) osq = w5 at *
          go_wp2_with fail
          go_roundw
          case rel => exact ⟨k + 1, by omega, by go_num, by rw [HS1.out, HA.out, HT.out]; rfl, Cell.bel_trans HBR.out HBQ.out⟩
          case measure => simp [intOf]; omega
    · obtain rfl : k = n' := by omega
      have h1 : la.take k = la := List.take_of_length_le (by rw [HLA.out]; omega)
      have h2 : lb.take k = lb := List.take_of_length_le (by rw [HLB.out]; omega)
      rw [h1, h2] at HA
      clear h1 h2
      go_wp2_with fail
      go_ret
      exact ⟨by rw [HR.out, HA.out]; rfl, HBR.out⟩
theorem sameRow_right {a b : List V} (ha : a.all V.right = true) (hb : b.all V.right = true) (oa : ∀ v ∈ a, v.ok) (ob : ∀ v ∈ b, v.ok) : sameRow a b = true ↔ a = b := by
  unfold sameRow
  rw [Bool.and_eq_true, decide_eq_true_eq]
  constructor
  · rintro ⟨hl, hall⟩
    apply List.ext_getElem? 
    intro k
    by_cases hk : k < a.length
    · have e1 : a[k]? = some (a[k]'hk) := List.getElem?_eq_getElem _
      have e2 : b[k]? = some (b[k]'(by omega)) := List.getElem?_eq_getElem _
      have hm : (a[k]'hk, b[k]'(by omega)) ∈ a.zip b := by
        apply List.mem_of_getElem? (i := k)
        rw [List.getElem?_zip_eq_some]
        exact ⟨e1, e2⟩
      have h1 := List.all_eq_true.1 hall _ hm
      have h2 : same1 (a[k]'hk) (b[k]'(by omega)) = true := h1
      unfold same1 at h2
      rw [Bool.and_eq_true] at h2
      have := same_right ((List.all_eq_true.1 ha) _ (List.getElem_mem hk)) ((List.all_eq_true.1 hb) _ (List.getElem_mem (by omega))) (oa _ (List.getElem_mem hk)).1 (ob _ (List.getElem_mem (by omega))).1 h2.2
      rw [e1, e2, this]
    · rw [List.getElem?_eq_none (by omega), List.getElem?_eq_none (by omega)]
  · rintro rfl
    refine ⟨rfl, ?_⟩
    rw [List.all_eq_true]
    rintro ⟨u, v⟩ hm
    obtain ⟨k, hk, e⟩ := List.mem_iff_getElem.1 hm
    rw [List.getElem_zip] at e
    injection e with e1 e2
    rw [← e1, ← e2]
    have hka : k < a.length := by rw [List.length_zip] at hk; omega
    show same1 a[k] a[k] = true
    unfold same1
    rw [same_self ((List.all_eq_true.1 ha) _ (List.getElem_mem hka)) (oa _ (List.getElem_mem hka)).1]
    simp
end Go.Proofs.YtfabcnbblhadnaaDoor.Mem
