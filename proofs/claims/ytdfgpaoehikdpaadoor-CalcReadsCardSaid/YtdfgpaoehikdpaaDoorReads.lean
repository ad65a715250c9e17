/- calc.Dec by the library's contract for a number in digits; the law CalcReads: its walk. -/
import Derived.Test.YtdfgpaoehikdpaaDoorDec
import Derived.Test.YtdfgpaoehikdpaaDoorAwake
import Derived.WalkSmall
import Derived.Lib.LaidU8
namespace Go.Proofs.YtdfgpaoehikdpaaDoor.Calc
open Go.RowKit Go.Proofs.YtdfgpaoehikdpaaDoor.Nums
set_option linter.unusedVariables false

theorem bel_trans {a b c : World} (h : Below a.heap.size a b) (k : Below b.heap.size b c) : Below a.heap.size a c := h.trans (k.mono h.size)

/-- the library's table of tens is there -/
def Pow (w : World) : Prop := Go.Lib.TabIs Tryd.prog w "internal/strconv.uint64pow10" .u64 Go.Lib.pow10Tab
theorem gPow : Tryd.prog.globalNamed "internal/strconv.uint64pow10" = some 0 := by kernel_rfl
theorem Pow.below {w w' : World} (h : Pow w) (hb : Below w.heap.size w w') : Pow w' := by
  refine var?_below hb gPow ?_ h
  have h1 := h
  unfold Pow Go.Lib.TabIs World.var? at h1
  rw [gPow] at h1
  simp only [Option.bind_some] at h1
  by_cases hg : 0 < w.heap.size
  · exact hg
  · rw [Array.getElem?_eq_none (by omega)] at h1
    cases h1

theorem tPow : (Tryd.prog.globals[0]?).map (·.type) = some 44 := by kernel_rfl
theorem cPow : Tryd.prog.cellsOf 44 = 20 := by kernel_rfl
theorem cPow1 : Tryd.prog.cellsOf 32 = 1 := by kernel_rfl
theorem pow_of_reads {w : World} (h : Go.Lib.VarReads Tryd.prog w "internal/strconv.uint64pow10" (Go.Lib.tabData .u64 Go.Lib.pow10Tab)) : Pow w := by
  obtain ⟨g, t, cs, fuel, p, hg, ht, hv, hd⟩ := h
  obtain rfl := Option.some.inj (gPow.symm.trans hg)
  obtain rfl := Option.some.inj (tPow.symm.trans ht)
  unfold Pow Go.Lib.TabIs
  rw [hv, ← Go.Lib.cells_of_tab Tryd.underlying44 Tryd.underlying32 cPow1 cPow hd]

theorem dec_any (n : Int) (hn : In64 n) (w : World) (hT : Pow w) :
    Calls Tryd.prog 7 #[.int .i64 n] w fun e w' => e = .returned (.string ⟨(Go.Lib.itoa n).toArray⟩) ∧ Below w.heap.size w w' := by
  have c := Tryd.strconv_FormatInt_10 n hn.1 hn.2 w hT
  have H := Lib.hid c
  clear c hT
  go_enter Tryd.func7, Tryd.ntmps7
  go_wp2_with fail
  refine H.out.mono ?_
  rintro e w' ⟨rfl, k, os, rfl⟩
  have hb := Go.Lib.below_grow w.heap.size w (Nat.le_refl _) k os
  generalize Go.Sort.grow (w.drewN k) os = w1 at *
  go_wp2_with fail
  go_ret
  exact ⟨rfl, hb⟩

theorem itoa_size (n : Int) (hn : In64 n) : (⟨(Go.Lib.itoa n).toArray⟩ : ByteArray).size ≤ maxLen := by
  have := itoa_len n hn
  show (Go.Lib.itoa n).toArray.size ≤ maxLen
  unfold maxLen
  simp
  omega

theorem CalcReads_walk (s : ByteArray) (n : Int) (hs : s.size ≤ maxLen) (hn : In64 n) (w : World) (hT : Pow w) :
    Calls Tryd.prog 3 #[.string s, .int .i64 n] w fun e w' => e = .returned (.bool true) ∧ Below w.heap.size w w' := by
  have HT := Lib.hid hT
  have HS := Lib.hid hs
  have HN := Lib.hid hn
  have HR := Lib.hid (fun w => read_any (⟨(Go.Lib.itoa n).toArray⟩ : ByteArray) (itoa_size n hn) w)
  clear hT hs hn
  by_cases h0 : 0 ≤ n
  · have c := HR.out
    have r := read_dec n h0 HN.out.2
    simp only [r.1, r.2] at c
    have HR2 := Lib.hid c
    clear c r HR
    go_enter Tryd.func3, Tryd.ntmps3
    go_wp2_with fail
    refine (awake_any _).mono ?_
    rintro e w1 ⟨rfl, hb1⟩
    have HB1 := Lib.hid hb1
    clear hb1
    go_wp2_with fail
    refine (read_any s HS.out _).mono ?_
    rintro e w2 ⟨rfl, hb2⟩
    have HB2 := Lib.hid (bel_trans HB1.out hb2)
    clear hb2
    go_wp2_with fail
    refine (ref_read s HS.out _).mono ?_
    rintro e w' ⟨rfl, rfl⟩
    go_wp2_with fail
    refine (dec_any n HN.out _ (HT.out.below HB2.out)).mono ?_
    rintro e w3 ⟨rfl, hb3⟩
    have HB3 := Lib.hid (bel_trans HB2.out hb3)
    clear hb3
    go_wp2_with fail
    refine (HR2.out _).mono ?_
    rintro e w4 ⟨rfl, hb4⟩
    have HB4 := Lib.hid (bel_trans HB3.out hb4)
    clear hb4
    go_wp2_with fail
    refine (ref_dec n HN.out _).mono ?_
    rintro e w' ⟨rfl, rfl⟩
    go_wp2_with fail
    go_ret
    exact ⟨rfl, HB4.out⟩
  · have c := HR.out
    have r := read_neg n (by omega)
    simp only [r.1, r.2] at c
    have HR2 := Lib.hid c
    clear c r HR
    go_enter Tryd.func3, Tryd.ntmps3
    go_wp2_with fail
    refine (awake_any _).mono ?_
    rintro e w1 ⟨rfl, hb1⟩
    have HB1 := Lib.hid hb1
    clear hb1
    go_wp2_with fail
    refine (read_any s HS.out _).mono ?_
    rintro e w2 ⟨rfl, hb2⟩
    have HB2 := Lib.hid (bel_trans HB1.out hb2)
    clear hb2
    go_wp2_with fail
    refine (ref_read s HS.out _).mono ?_
    rintro e w' ⟨rfl, rfl⟩
    go_wp2_with fail
    refine (dec_any n HN.out _ (HT.out.below HB2.out)).mono ?_
    rintro e w3 ⟨rfl, hb3⟩
    have HB3 := Lib.hid (bel_trans HB2.out hb3)
    clear hb3
    go_wp2_with fail
    refine (HR2.out _).mono ?_
    rintro e w4 ⟨rfl, hb4⟩
    have HB4 := Lib.hid (bel_trans HB3.out hb4)
    clear hb4
    go_wp2_with fail
    refine (ref_dec n HN.out _).mono ?_
    rintro e w' ⟨rfl, rfl⟩
    go_wp2_with fail
    go_ret
    exact ⟨rfl, HB4.out⟩
end Go.Proofs.YtdfgpaoehikdpaaDoor.Calc
